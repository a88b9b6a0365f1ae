/-
  The document's mayWords, Sorted.
-/
import Derived.Test.YtnicijeeocknaaaDoorRmA
import Derived.Test.YtnicijeeocknaaaDoorL1
import Derived.Deep.RegionHeld3
set_option linter.unusedVariables false
set_option linter.unusedSimpArgs false
namespace Go.Proofs.YtnicijeeocknaaaDoor.RmB
open Go.RowKit Go.Proofs.YtnicijeeocknaaaDoor.BxD Go.Proofs.YtnicijeeocknaaaDoor.BxKit Go.Proofs.YtnicijeeocknaaaDoor.BxA Go.Proofs.YtnicijeeocknaaaDoor.BxAtom Go.Proofs.YtnicijeeocknaaaDoor.BxR Go.Proofs.YtnicijeeocknaaaDoor.BxB Go.Proofs.YtnicijeeocknaaaDoor.RwD Go.Proofs.YtnicijeeocknaaaDoor.RwM Go.Proofs.YtnicijeeocknaaaDoor.RmD Go.Proofs.YtnicijeeocknaaaDoor.RmA

set_option maxHeartbeats 1000000 in
set_option maxRecDepth 100000 in
theorem mayWords_any {A : Option Addr} {n cp B : Nat} {zs : List ByteArray} {w : World} (h : StrsAt w B A n zs) (hc : n ≤ cp) (hB : B ≤ w.heap.size) :
    Calls Tryd.prog 24 #[.slice A n cp] w fun e w' => e = .returned (.bool (wordsB zs)) ∧ w = w' := by
  have hmx := h.max
  have HX := Lib.hid h
  clear h
  go_enter Tryd.func24, Tryd.ntmps24
  go_upto_region 2 with fail
  go_loopw [7] (fun s7 wr => wr = w ∧ ∃ k : Nat, k ≤ n ∧ s7 = .int .i64 k ∧ Hid (∀ i, i < k → okW zs i)) (fun s7 _ => n - (intOf s7).toNat)
  case atStart => exact ⟨rfl, 0, Nat.zero_le _, rfl, fun i hi => absurd hi (Nat.not_lt_zero _)⟩
  case round =>
    obtain ⟨rfl, k, hk, rfl, HT⟩ := hrel
    by_cases hlt : k < n
    · obtain ⟨ad1, x1, rfl, e1, hc1⟩ := StrsAt.at_ HX.out (Below.refl _ _) (Nat.le_refl _) hlt
      have g1 : (0 : Int) ≤ (k : Int) := by omega
      have g2 : (k : Int) ≤ (cp : Int) := by omega
      have g3 : (k : Int) < (n : Int) := by omega
      cases ha : atB x1 with
      | false =>
        have HF := Lib.hid (wordsB_bad e1 (.inl ha))
        have KA := refAtom_any x1 wr
        rw [ha] at KA
        have KA := Lib.hid KA
        clear e1
        go_wp2_with ((go_at_call 49; refine KA.out.mono ?_; rintro e w' ⟨rfl, rfl⟩))
        go_ret
        exact ⟨ret_bool HF.out.symm, rfl⟩
      | true =>
        have HQ := Lib.hid ha
        have KA := refAtom_any x1 wr
        rw [ha] at KA
        have KA := Lib.hid KA
        have D := has_any (cp := cp) x1 (RowAt.take HX.out hk)
        by_cases hm : x1 ∈ zs.take k
        · have HF := Lib.hid (wordsB_bad e1 (.inr hm))
          rw [decide_eq_true hm] at D
          have L := Lib.hid D
          clear D hm e1
          go_wp2_with (first | (go_at_call 49; refine KA.out.mono ?_; rintro e w' ⟨rfl, rfl⟩) | (go_at_call 50; refine L.out.mono ?_; rintro e w' ⟨rfl, rfl⟩))
          go_ret
          exact ⟨ret_bool HF.out.symm, rfl⟩
        · have HT2 := Lib.hid (okW_next HT.out e1 HQ.out hm)
          rw [decide_eq_false hm] at D
          have L := Lib.hid D
          clear D hm e1
          go_wp2_with (first | (go_at_call 49; refine KA.out.mono ?_; rintro e w' ⟨rfl, rfl⟩) | (go_at_call 50; refine L.out.mono ?_; rintro e w' ⟨rfl, rfl⟩))
          go_roundw
          case rel => exact ⟨trivial, k + 1, by omega, by go_num, HT2⟩
          case measure => exact meas hlt
    · obtain rfl : n = k := by omega
      have HWB := Lib.hid (show wordsB zs = true from wordsB_good (by have := HX.out.len; omega) HT.out)
      go_wp2
      go_ret
      exact ⟨ret_bool HWB.out.symm, rfl⟩

/-! ## Slices of ints cut -/
theorem elemI : Tryd.prog.elem 26 = 3 := by kernel_rfl
theorem undI : Tryd.prog.underlying 26 = some (.slice (Tryd.prog.elem 26)) := by kernel_rfl
theorem run_sizeI (w : World) : (sizeOf 3).run Tryd.prog w = .ok 1 w := by
  have h : (Tryd.prog.info? 3).map (·.size) = some 1 := by kernel_rfl
  obtain ⟨i, hi, hs⟩ := Option.map_eq_some_iff.1 h
  simp [sizeOf, typeInfo, hi, hs]
theorem si_hi (A : Option Addr) (n cp i : Nat) (hi : i ≤ cp) (w : World) : (Instr.slice 26 (.slice A n cp) none (some (.int .i64 (i : Int))) none).run Tryd.prog w = .ok (.slice A i cp) w := by
  rw [run_slice_h w 26 A n cp undI .i64 (i : Int) (by omega) (by omega), elemI, run_sizeI]
  simp only [Result.andThen, sliced, Int.toNat_natCast, Nat.sub_zero, Nat.zero_mul]
  congr 2
  split
  · rfl
  · cases A with
    | none => rfl
    | some a => simp [Addr.add]
theorem si_lo {w : World} {B : Nat} {A : Option Addr} {n cp i : Nat} {l : List Int} (h : IntsAt w B A n l) (hi : i ≤ n) (hn : n ≤ cp) :
    ∃ A2 n2 c2, (∀ w, (Instr.slice 26 (.slice A n cp) (some (.int .i64 (i : Int))) none none).run Tryd.prog w = .ok (.slice A2 n2 c2) w) ∧ n2 + i = n ∧ IntsAt w B A2 n2 (l.drop i) := by
  refine ⟨if cp = i then A else A.map (·.add (i * 1)), n - i, cp - i, fun w => ?_, by omega, RowAt.cut h hi hn⟩
  rw [run_slice_l w 26 A n cp undI .i64 (i : Int) (by omega) (by omega), elemI, run_sizeI]
  simp only [Result.andThen, sliced, Int.toNat_natCast]
theorem nw {w : World} {o : Obj} {b : Nat} (hb : b = w.heap.size) : (w.alloc o).heap[b]? = some o := by subst hb; exact heap_alloc_new w o
theorem od {w : World} {o : Obj} {b : Nat} {x : Obj} (h : w.heap[b]? = some x) : (w.alloc o).heap[b]? = some x := (Below.heap_alloc _ _ _ (Array.getElem?_eq_some_iff.1 h).1).trans h
theorem dr {w : World} {b : Nat} {x : Obj} (h : w.heap[b]? = some x) : w.drew.heap[b]? = some x := h
theorem below_g {a b : World} (h : Below a.heap.size a b) (row : Option Nat) : a.grownBy b row := ⟨h.os, h.tape, h.output, h.size, fun i hi _ => h.block i hi⟩
theorem own_go {w W : World} {base e sz n : Nat} {v : Value} {xs : List Value} (h : w.ownsRow base e sz v n xs) (hb : Below w.heap.size w W) : W.ownsRow base e sz v n xs := h.kept (below_g hb none) (by cases hv : v.ownBlock <;> simp)
theorem oneI {W : World} {b : Nat} {x : Int} (h : W.heap[b]? = some (.cells #[.int .i64 x] 3 (0, 0))) : Src W (some ⟨b, 0, none⟩) 1 1 [.int .i64 x] := by
  refine ⟨rfl, fun u hu => by simp at hu; subst hu; rfl, fun _ => ⟨_, rfl, fun j u hu => ?_⟩⟩
  rw [BxR.add_new, cell_of_row W b j _ _ _ h]
  simpa using hu
/-- The numbers put in order so far. -/
def SoPost (l : List Int) (w : World) (e : Ending) (w' : World) : Prop := ∃ A c, e = .returned (.slice A l.length c) ∧ l.length ≤ c ∧ w'.ownsRow w.heap.size 3 1 (.slice A l.length c) l.length (l.map (Value.int .i64)) ∧ Below w.heap.size w w'
theorem own_le {w : World} {b b' e sz n : Nat} {v : Value} {xs : List Value} (h : w.ownsRow b e sz v n xs) (hb : b' ≤ b) : w.ownsRow b' e sz v n xs :=
  ⟨h.1, h.2.imp id fun ⟨g, cap, cur, hv, hg, rest⟩ => ⟨g, cap, cur, hv, Nat.le_trans hb hg, rest⟩⟩
theorem srt_step {l : List Int} {k : Nat} {x : Int} (h : l[k]? = some x) : srtI (l.take (k + 1)) = insI x (srtI (l.take k)) := by
  obtain ⟨hl, e⟩ := List.getElem?_eq_some_iff.1 h
  rw [List.take_succ_eq_append_getElem hl, e]
  unfold srtI
  rw [List.foldl_append]; rfl
theorem insI_len (x : Int) (l : List Int) : (insI x l).length ≤ l.length + 1 := by
  unfold insI
  have := posI_le x l
  split
  · omega
  · simp; omega
theorem srtI_len : ∀ (l : List Int), (srtI l).length ≤ l.length := fun l => by
  have key : ∀ (l a : List Int), (l.foldl (fun a x => insI x a) a).length ≤ a.length + l.length := by
    intro l
    induction l with
    | nil => intro a; simp
    | cons x l ih =>
      intro a
      have := ih (insI x a)
      have h2 := insI_len x a
      rw [List.foldl_cons, List.length_cons]
      omega
  have := key l []
  unfold srtI
  simpa using this
set_option maxHeartbeats 4000000 in
set_option maxRecDepth 100000 in
theorem sorted_any {A : Option Addr} {n cp B : Nat} {l : List Int} {w : World} (h : IntsAt w B A n l) (hB : B ≤ w.heap.size) (hn : n ≤ 1000000) :
    Calls Tryd.prog 28 #[.slice A n cp] w (SoPost (srtI l) w) := by
  have H := Lib.hid h
  clear h
  go_enter Tryd.func28, Tryd.ntmps28
  go_upto_region 3 with fail
  go_loopw [9, 3] (fun s9 s3 wr => ∃ (k m c : Nat) (O : Option Addr) (out : List Int), k ≤ n ∧ m ≤ k ∧ s9 = .int .i64 k ∧ s3 = .slice O m c ∧ m ≤ c ∧ Hid (out = srtI (l.take k)) ∧ Hid (wr.ownsRow w.heap.size 3 1 (.slice O m c) m (out.map (Value.int .i64))) ∧ Hid (Below w.heap.size w wr)) (fun s9 _ _ => n - (intOf s9).toNat)
  case atStart => exact ⟨0, 0, 0, none, [], Nat.zero_le _, Nat.le_refl _, rfl, rfl, Nat.le_refl _, Lib.hid rfl, Lib.hid (World.ownsRow_nil _ _ _ _), Lib.hid (Below.refl _ _)⟩
  case round =>
    obtain ⟨k, m, c, O, out, hk, hm, rfl, rfl, hmc, HE, HOW, HB⟩ := hrel
    have HO := Lib.hid (intsAt_own HOW.out (by omega))
    by_cases hlt : k < n
    · obtain ⟨ad, x, rfl, e1, m0⟩ := IntsAt.at_ H.out HB.out hB hlt
      have HST := Lib.hid (srt_step e1)
      have g0 : (0 : Int) ≤ (k : Int) := by omega
      have g1 : (k : Int) < (n : Int) := by omega
      clear e1
      go_upto_region 6 with fail
      clear m0
      have HR := Lib.hid (show out.Pairwise (· < ·) by rw [HE.out]; exact srtI_rise _)
      obtain ⟨w1, hw1⟩ : ∃ w1, w1 = wr := ⟨_, rfl⟩
      rw [← hw1] at HO HOW HB ⊢
      clear hw1
      go_loopw [6] (fun s6 wx => wx = w1 ∧ ∃ i : Nat, i ≤ m ∧ s6 = .int .i64 i ∧ Hid (∀ j y, j < i → out[j]? = some y → y < x)) (fun s6 _ => m - (intOf s6).toNat)
      case atStart => exact ⟨rfl, 0, Nat.zero_le _, rfl, Lib.hid (fun j y hj => absurd hj (Nat.not_lt_zero _))⟩
      case round =>
        obtain ⟨rfl, i, hi, rfl, HQ⟩ := hrel
        have i0 : (0 : Int) ≤ (i : Int) := by omega
        by_cases hlt2 : i < m
        · obtain ⟨ao, y, rfl, e2, m2⟩ := IntsAt.at_ HO.out (Below.refl _ _) (Nat.le_refl _) hlt2
          have HY := Lib.hid e2
          have i1 : (i : Int) < (m : Int) := by omega
          have i2 : ((i : Int) == (m : Int)) = false := by rw [beq_eq_false_iff_ne]; omega
          clear e2
          by_cases hy : y < x
          · have HY2 := Lib.hid hy
            go_wp2_with fail
            go_roundw
            case rel =>
              refine ⟨trivial, i + 1, hlt2, by go_num, Lib.hid (fun j z hj hz => ?_)⟩
              rcases Nat.lt_or_ge j i with h | h
              · exact HQ.out j z h hz
              · obtain rfl : j = i := by omega
                rw [HY.out] at hz
                obtain rfl := Option.some.inj hz
                exact HY2.out
            case measure => exact meas hlt2
          · have HP := Lib.hid (show posI x out = i from posI_eq (by have := HO.out.len; omega) HQ.out fun z hz => by rw [HY.out] at hz; obtain rfl := Option.some.inj hz; exact hy)
            by_cases hyx : y = x
            · have hq : (y == x) = true := by simpa using hyx
              have hq2 : (y != x) = false := by unfold bne; rw [hq]; rfl
              have HE2 := Lib.hid (show out = srtI (l.take (k + 1)) by
                rw [HST.out, ← HE.out]
                unfold insI
                rw [HP.out, HY.out, hyx, if_pos rfl])
              clear hyx
              go_wp2_with fail
              go_roundw
              case rel => exact ⟨k + 1, m, c, _, out, hlt, by omega, by go_num, rfl, hmc, HE2, HOW, HB⟩
              case measure => exact meas hlt
            · have hq : (y == x) = false := by simpa using hyx
              have hq2 : (y != x) = true := by unfold bne; rw [hq]; rfl
              have HE2 := Lib.hid (show out.take i ++ x :: out.drop i = srtI (l.take (k + 1)) by
                rw [HST.out, ← HE.out]
                unfold insI
                rw [HP.out, HY.out, if_neg (fun e => hyx (Option.some.inj e))])
              clear hyx
              have ht1 := si_hi (some ao) m c i (by omega)
              obtain ⟨A2, n2, c2, ht2, hn2, hdr⟩ := si_lo HO.out hi hmc
              have HDR := Lib.hid hdr
              have HTK := Lib.hid (RowAt.take HO.out hi)
              have hn2b : i + n2 = m := by omega
              clear hdr hn2
              go_upto_region 9 with fail
              go_region_held3 (fun _ => True) (first | trivial | go_keep) (first
                | (show (if Region.wanted ⟨some 42, _, _, _, _, _⟩ _ = true then _ else _)
                   go_loud (
                   refine step_rows elI (base := wr.heap.size) (c := c) rfl (.const (.slice none 0 0)) (.tmp 41) rfl rfl rfl (World.ownsRow_nil _ _ _ _) (ints_src (IntsAt.below HTK.out (by (repeat (with_reducible first | exact Below.refl _ _ | refine Below.drew ?_ | refine Below.alloc ?_ (by first | exact Nat.le_refl _ | omega | (simp; done) | (simp; omega)) _)); first | done | fail) (Nat.le_refl _))) (by unfold maxLen; omega) (by omega) (by first | exact Nat.le_refl _ | omega | (simp; done) | (simp; omega)) ?_
                   intro v1 w6 hown1 hg1 _
                   have X6 := Lib.hid (Below.grown (show Below wr.heap.size wr _ from (by (repeat (with_reducible first | exact Below.refl _ _ | refine Below.drew ?_ | refine Below.alloc ?_ (by first | exact Nat.le_refl _ | omega | (simp; done) | (simp; omega)) _)); first | done | fail)) hg1 (by first | exact Nat.le_refl _ | omega | (simp; done) | (simp; omega)) (fun k e => by cases e))
                   rw [Nat.zero_add, List.nil_append] at hown1
                   have HO1 := Lib.hid hown1
                   have hs6 := X6.out.size
                   have hs6' := hg1.size
                   try simp at hs6'
                   first | (have HM6 := Lib.hid (show w6.heap[wr.heap.size]? = some (.cells #[.int .i64 x] 3 (0, 0)) from (hg1.block wr.heap.size (by first | exact Nat.le_refl _ | omega | (simp; done) | (simp; omega)) (fun e => by cases e)).trans (by (repeat (with_reducible first | exact nw (by first | rfl | (simp; done) | (simp; omega)) | refine dr ?_ | refine od ?_)); first | done | fail))) | skip
                   clear hown1 hg1
                   dsimp only))
                | (show (if Region.wanted ⟨some 45, _, _, _, _, _⟩ _ = true then _ else _)
                   go_loud (
                   refine step_rows elI (base := wr.heap.size) (c := 1) rfl (.tmp 42) (.tmp 44) rfl rfl rfl (own_go HO1.out (show Below w6.heap.size w6 _ from (by (repeat (with_reducible first | exact Below.refl _ _ | refine Below.drew ?_ | refine Below.alloc ?_ (by first | exact Nat.le_refl _ | omega | (simp; done) | (simp; omega)) _)); first | done | fail))) (oneI (by (repeat (with_reducible first | exact nw (by first | rfl | (simp; done) | (simp; omega)) | exact HM6.out | refine dr ?_ | refine od ?_)); first | done | fail)) (by unfold maxLen; omega) (by omega) (by first | exact Nat.le_refl _ | omega | (simp; done) | (simp; omega)) ?_
                   intro v2 w7 hown2 hg2 _
                   have X7 := Lib.hid (Below.grown (show Below wr.heap.size wr _ from (by (repeat (with_reducible first | exact Below.refl _ _ | exact X6.out | refine Below.drew ?_ | refine Below.alloc ?_ (by first | exact Nat.le_refl _ | omega | (simp; done) | (simp; omega)) _)); first | done | fail)) hg2 (by first | exact Nat.le_refl _ | omega | (simp; done) | (simp; omega)) (fun k e => (HO1.out.lt k e).1))
                   have HO2 := Lib.hid hown2
                   clear hown2 hg2
                   dsimp only))
                | (show (if Region.wanted ⟨some 49, _, _, _, _, _⟩ _ = true then _ else _)
                   go_loud (
                   refine step_rows elI (base := wr.heap.size) (c := c2) rfl (.tmp 45) (.tmp 48) rfl rfl rfl HO2.out (ints_src (IntsAt.below HDR.out X7.out (Nat.le_refl _))) (by unfold maxLen; omega) (by omega) (X7.out.size) ?_
                   intro v3 w8 hown3 hg3 _
                   have X8 := Lib.hid (Below.grown X7.out hg3 X7.out.size (fun k e => (HO2.out.lt k e).1))
                   obtain ⟨A3, c3, rfl, hc3⟩ := BxR.own_slice hown3
                   have HO3 := Lib.hid hown3
                   clear hown3 hg3
                   dsimp only)))
              all_goals
                rename_i hHeld
                clear hHeld
                have HI8 := Lib.hid (show w8.ownsRow w.heap.size 3 1 (.slice A3 (i + 1 + n2) c3) (i + 1 + n2) ((out.take i ++ x :: out.drop i).map (Value.int .i64)) from own_le (by have h := HO3.out; rw [List.map_append, List.map_cons]; rw [List.append_assoc] at h; exact h) HB.out.size)
                have HB8 := Lib.hid (HB.out.trans (X8.out.mono HB.out.size))
                go_wp2_with fail
                go_roundw
                case rel => exact ⟨k + 1, i + 1 + n2, c3, A3, _, hlt, by omega, by go_num, rfl, by omega, HE2, HI8, HB8⟩
                case measure => exact meas hlt
        · have HP := Lib.hid (show posI x out = i from posI_eq (by have := HO.out.len; omega) HQ.out fun z hz => by rw [List.getElem?_eq_none (by have := HO.out.len; omega)] at hz; cases hz)
          have i1 : ¬ ((i : Int) < (m : Int)) := by omega
          have i2 : ((i : Int) == (m : Int)) = true := by rw [beq_iff_eq]; omega
          have HE2 := Lib.hid (show out.take i ++ x :: out.drop i = srtI (l.take (k + 1)) by
            rw [HST.out, ← HE.out]
            unfold insI
            rw [HP.out, List.getElem?_eq_none (by have := HO.out.len; omega), if_neg (by simp)])
          have ht1 := si_hi O m c i (by omega)
          obtain ⟨A2, n2, c2, ht2, hn2, hdr⟩ := si_lo HO.out hi hmc
          have HDR := Lib.hid hdr
          have HTK := Lib.hid (RowAt.take HO.out hi)
          have hn2b : i + n2 = m := by omega
          clear hdr hn2
          go_upto_region 9 with fail
          go_region_held3 (fun _ => True) (first | trivial | go_keep) (first
            | (show (if Region.wanted ⟨some 42, _, _, _, _, _⟩ _ = true then _ else _)
               go_loud (
               refine step_rows elI (base := wr.heap.size) (c := c) rfl (.const (.slice none 0 0)) (.tmp 41) rfl rfl rfl (World.ownsRow_nil _ _ _ _) (ints_src (IntsAt.below HTK.out (by (repeat (with_reducible first | exact Below.refl _ _ | refine Below.drew ?_ | refine Below.alloc ?_ (by first | exact Nat.le_refl _ | omega | (simp; done) | (simp; omega)) _)); first | done | fail) (Nat.le_refl _))) (by unfold maxLen; omega) (by omega) (by first | exact Nat.le_refl _ | omega | (simp; done) | (simp; omega)) ?_
               intro v1 w6 hown1 hg1 _
               have X6 := Lib.hid (Below.grown (show Below wr.heap.size wr _ from (by (repeat (with_reducible first | exact Below.refl _ _ | refine Below.drew ?_ | refine Below.alloc ?_ (by first | exact Nat.le_refl _ | omega | (simp; done) | (simp; omega)) _)); first | done | fail)) hg1 (by first | exact Nat.le_refl _ | omega | (simp; done) | (simp; omega)) (fun k e => by cases e))
               rw [Nat.zero_add, List.nil_append] at hown1
               have HO1 := Lib.hid hown1
               have hs6 := X6.out.size
               have hs6' := hg1.size
               try simp at hs6'
               first | (have HM6 := Lib.hid (show w6.heap[wr.heap.size]? = some (.cells #[.int .i64 x] 3 (0, 0)) from (hg1.block wr.heap.size (by first | exact Nat.le_refl _ | omega | (simp; done) | (simp; omega)) (fun e => by cases e)).trans (by (repeat (with_reducible first | exact nw (by first | rfl | (simp; done) | (simp; omega)) | refine dr ?_ | refine od ?_)); first | done | fail))) | skip
               clear hown1 hg1
               dsimp only))
            | (show (if Region.wanted ⟨some 45, _, _, _, _, _⟩ _ = true then _ else _)
               go_loud (
               refine step_rows elI (base := wr.heap.size) (c := 1) rfl (.tmp 42) (.tmp 44) rfl rfl rfl (own_go HO1.out (show Below w6.heap.size w6 _ from (by (repeat (with_reducible first | exact Below.refl _ _ | refine Below.drew ?_ | refine Below.alloc ?_ (by first | exact Nat.le_refl _ | omega | (simp; done) | (simp; omega)) _)); first | done | fail))) (oneI (by (repeat (with_reducible first | exact nw (by first | rfl | (simp; done) | (simp; omega)) | exact HM6.out | refine dr ?_ | refine od ?_)); first | done | fail)) (by unfold maxLen; omega) (by omega) (by first | exact Nat.le_refl _ | omega | (simp; done) | (simp; omega)) ?_
               intro v2 w7 hown2 hg2 _
               have X7 := Lib.hid (Below.grown (show Below wr.heap.size wr _ from (by (repeat (with_reducible first | exact Below.refl _ _ | exact X6.out | refine Below.drew ?_ | refine Below.alloc ?_ (by first | exact Nat.le_refl _ | omega | (simp; done) | (simp; omega)) _)); first | done | fail)) hg2 (by first | exact Nat.le_refl _ | omega | (simp; done) | (simp; omega)) (fun k e => (HO1.out.lt k e).1))
               have HO2 := Lib.hid hown2
               clear hown2 hg2
               dsimp only))
            | (show (if Region.wanted ⟨some 49, _, _, _, _, _⟩ _ = true then _ else _)
               go_loud (
               refine step_rows elI (base := wr.heap.size) (c := c2) rfl (.tmp 45) (.tmp 48) rfl rfl rfl HO2.out (ints_src (IntsAt.below HDR.out X7.out (Nat.le_refl _))) (by unfold maxLen; omega) (by omega) (X7.out.size) ?_
               intro v3 w8 hown3 hg3 _
               have X8 := Lib.hid (Below.grown X7.out hg3 X7.out.size (fun k e => (HO2.out.lt k e).1))
               obtain ⟨A3, c3, rfl, hc3⟩ := BxR.own_slice hown3
               have HO3 := Lib.hid hown3
               clear hown3 hg3
               dsimp only)))
          all_goals
            rename_i hHeld
            clear hHeld
            have HI8 := Lib.hid (show w8.ownsRow w.heap.size 3 1 (.slice A3 (i + 1 + n2) c3) (i + 1 + n2) ((out.take i ++ x :: out.drop i).map (Value.int .i64)) from own_le (by have h := HO3.out; rw [List.map_append, List.map_cons]; rw [List.append_assoc] at h; exact h) HB.out.size)
            have HB8 := Lib.hid (HB.out.trans (X8.out.mono HB.out.size))
            go_wp2_with fail
            go_roundw
            case rel => exact ⟨k + 1, i + 1 + n2, c3, A3, _, hlt, by omega, by go_num, rfl, by omega, HE2, HI8, HB8⟩
            case measure => exact meas hlt
    · obtain rfl : k = n := by omega
      have HP := Lib.hid (show SoPost (srtI l) w (.returned (.slice O m c)) wr by
        have e : out = srtI l := by
          have := HE.out
          rwa [List.take_of_length_le (by rw [H.out.len]; exact Nat.le_refl _)] at this
        have hl := HO.out.len
        have h9 := HOW.out
        subst e
        subst hl
        exact ⟨O, c, rfl, hmc, h9, HB.out⟩)
      go_wp2
      go_ret
      exact HP.out
end Go.Proofs.YtnicijeeocknaaaDoor.RmB
