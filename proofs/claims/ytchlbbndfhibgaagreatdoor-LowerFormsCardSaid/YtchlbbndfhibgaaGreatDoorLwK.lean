/-
  The words from OldWords on; what is lost of a row, of the program.
-/
import Derived.Test.YtchlbbndfhibgaaGreatDoorM1
import Derived.Test.YtchlbbndfhibgaaGreatDoorShelq
import Derived.Test.YtchlbbndfhibgaaGreatDoorK5
import Derived.Test.YtchlbbndfhibgaaGreatDoorN5
import Derived.Test.YtchlbbndfhibgaaGreatDoorJ4
set_option linter.unusedVariables false
set_option linter.unusedSimpArgs false
namespace Go.Proofs.YtchlbbndfhibgaaGreatDoor.LwK
open Go.RowKit Go.Proofs.YtchlbbndfhibgaaGreatDoor.BxD Go.Proofs.YtchlbbndfhibgaaGreatDoor.BxKit Go.Proofs.YtchlbbndfhibgaaGreatDoor.BxR Go.Proofs.YtchlbbndfhibgaaGreatDoor.BxV Go.Proofs.YtchlbbndfhibgaaGreatDoor.RwDel Go.Proofs.YtchlbbndfhibgaaGreatDoor.RwW1 Go.Proofs.YtchlbbndfhibgaaGreatDoor.RwD Go.Proofs.YtchlbbndfhibgaaGreatDoor.ImC Go.Proofs.YtchlbbndfhibgaaGreatDoor.LwD Go.Proofs.YtchlbbndfhibgaaGreatDoor.LwT

theorem near_any (x : Int) (W : World) : FnGives Tryz.prog 123 #[] #[.int .i64 x] (.bool (decide (x < 32))) W := by
  show Calls Tryz.prog _ #[.int .i64 x] W _
  go_enter Tryz.func123, Tryz.ntmps123
  go_wp2
  all_goals (go_ret; exact ⟨by simp_all, 0, rfl⟩)
theorem keep_far (ks : List Int) : (ks.toArray.toList.filter fun x => !decide (x < 32)) = farK ks := rfl
theorem del_any {w : World} {base n c : Nat} {A : Option Addr} {ks : List Int} (h : w.ownsRow base 3 1 (.slice A n c) n (ks.map (Value.int .i64))) (hn : 0 < n) (h6 : n ≤ 1000000) :
    Calls Tryz.prog 124 #[.slice A n c, .func (.func 123) #[] #[]] w fun e w' => ∃ A' c', e = .returned (.slice A' (farK ks).length c') ∧ IntsAt w' w'.heap.size A' (farK ks).length (farK ks) ∧ Below base w w' := by
  have hl : ks.length = n := by have := h.1; simpa using this
  rcases owns_cases h with ⟨_, h0, _⟩ | ⟨g, cap, rest, hv, hb, hr, hnc, hcm, hxl, _⟩
  · omega
  have hA : A = some ⟨g, 0, none⟩ := by injection hv
  have hc : c = cap := by injection hv
  subst hA
  subst hc
  have hH : Sort.Holds (Value.int .i64) w g 0 ks.toArray := fun j hj => by
    have hj' : j < ks.length := by simpa using hj
    refine ⟨?_, hr.frozen _⟩
    rw [Nat.zero_add, hr.cell, List.getElem?_append_left (by simpa using hj'), List.getElem?_map, List.getElem?_eq_getElem hj', getElem!_pos ks.toArray j hj]
    simp
  have hc := Tryz.slices_DeleteFunc (Value.int .i64) (fun _ => rfl) (fun x => decide (x < 32)) 123 #[] (enters_of Tryz.func123 (by kernel_rfl) rfl) 0 (fun _ => by kernel_rfl) g 0 c ks.toArray w (fun W x _ => near_any x W) (fun _ _ _ x _ => near_any x _) hH (by simp; omega) (by simp; omega)
  rw [keep_far] at hc
  have hs : ks.toArray.size = n := by simpa using hl
  rw [hs] at hc
  refine hc.mono ?_
  rintro e w' ⟨rfl, q, rfl⟩
  have hle : (farK ks).length ≤ n := by rw [← hl]; exact List.length_filter_le _ _
  refine ⟨_, _, rfl, ⟨rfl, by omega, fun _ => ⟨_, rfl, ?_, fun j x hx => ?_⟩⟩, ⟨rfl, rfl, rfl, by simp [Sort.ahead], fun k hk => ?_⟩⟩
  · have := hr.lt
    simpa [Sort.ahead] using this
  · have hj : j < (farK ks).length := (List.getElem?_eq_some_iff.1 hx).1
    have hH2 : Sort.Holds (Value.int .i64) (Sort.ahead w q) g 0 ks.toArray := hH
    have := Sort.cell?_putRow (Value.int .i64) (Sort.ahead w q) g 0 ks.toArray (farK ks ++ List.replicate (n - (farK ks).length) 0).toArray hH2 (by simp; omega) j (by simp; omega)
    unfold intC
    rw [Nat.mul_one, add_new]
    rw [Nat.zero_add] at this
    rw [this, getElem!_pos _ j (by simp; omega)]
    have e1 : (farK ks)[j] = x := by rw [List.getElem?_eq_getElem hj] at hx; exact Option.some.inj hx
    simp [List.getElem_append_left hj, e1]
  · show (Sort.putRow _ (Sort.ahead w q) g 0 _).heap[k]? = w.heap[k]?
    unfold Sort.putRow Sort.mapBlock
    rw [Array.getElem?_modify, if_neg (by omega)]
    rfl
theorem cell_spot {w : World} {a : Addr} {v : Value} (h : w.cell? a = some v) : a.spot = none := by
  unfold World.cell? at h
  split at h
  · cases hs : a.spot with
    | none => rfl
    | some x => rw [hs] at h; simp at h
  · cases h
theorem tail_le {K : Nat} : ∀ zs : List ByteArray, (∀ x ∈ zs, x.size ≤ K) → (Lib.joinTail [32] (zs.map (·.data.toList))).length ≤ zs.length * (K + 1)
  | [], _ => by simp [Lib.joinTail]
  | x :: r, h => by
    have h1 := h x (by simp)
    have h2 := tail_le r fun y hy => h y (by simp [hy])
    have h3 : x.data.size ≤ K := h1
    unfold Lib.joinTail at h2 ⊢
    simp only [List.map_cons, List.flatten_cons, List.length_append, List.length_cons, Array.length_toList, List.cons_append, List.nil_append] at h2 ⊢
    rw [Nat.add_mul]
    omega
theorem jn_le {K : Nat} {zs : List ByteArray} (h : ∀ x ∈ zs, x.size ≤ K) : (jn zs).length ≤ zs.length * (K + 1) := by
  unfold jn
  cases zs with
  | nil => simp [Lib.join_nil]
  | cons x r =>
    rw [List.map_cons, Lib.join_cons, List.length_append]
    have h1 : x.data.size ≤ K := h x (by simp)
    have h2 := tail_le r fun y hy => h y (by simp [hy])
    simp only [Array.length_toList, List.length_cons]
    rw [Nat.add_mul]
    omega
theorem join_any {w : World} {B n c : Nat} {A : Option Addr} {zs : List ByteArray} (h : StrsAt w B A n zs) (hB : B ≤ w.heap.size) (hc : n ≤ c) (hl : (jn zs).length ≤ 140737488355328) :
    Calls Tryz.prog 97 #[.slice A n c, .string ⟨#[32]⟩] w fun e w' => e = .returned (.string ⟨(jn zs).toArray⟩) ∧ Below w.heap.size w w' := by
  have hn := h.1
  have hm := h.2.1
  subst hn
  by_cases h0 : zs.length = 0
  · have hz : zs = [] := List.eq_nil_of_length_eq_zero h0
    subst hz
    exact (Tryz.strings_Join_none A c _ w).mono fun e w' ⟨he, hw⟩ => ⟨he, by rw [hw]; exact Below.refl _ _⟩
  · obtain ⟨ad, rfl, hlt, hcell⟩ := h.2.2 (by omega)
    have hsp : ad.spot = none := by
      have := (hcell 0 (zs[0]'(by omega)) (List.getElem?_eq_getElem _)).1
      rw [Nat.zero_mul, Addr.add_zero'] at this
      exact cell_spot this
    obtain ⟨bk, o, sp⟩ := ad
    simp only at hsp hlt
    subst hsp
    refine (Tryz.strings_Join bk o c zs ⟨#[32]⟩ w (fun j x hx => ?_) (by omega) hm hc hl).mono fun e w' ⟨he, hb⟩ => ⟨he, hb⟩
    have := (hcell j x hx).1
    rw [Nat.mul_one] at this
    rw [← this]
    congr 1
    unfold Addr.add
    split <;> simp_all
theorem six_of {wr : World} {L : Nat} {c0 c1 c2 c3 c4 c5 : Value} {t : TypeId} (h : wr.heap[L]? = some (.cells #[c0, c1, c2, c3, c4, c5] t (0, 0))) :
    wr.heap[L]? = some (.cells #[c0, c1, c2, c3, c4, c5] t (0, 0)) ∧ wr.cell? { block := L, off := 0 } = some c0 ∧ wr.cell? { block := L, off := 1 } = some c1 ∧ wr.cell? { block := L, off := 2 } = some c2 ∧ wr.cell? { block := L, off := 3 } = some c3 ∧ wr.cell? { block := L, off := 4 } = some c4 ∧ wr.cell? { block := L, off := 5 } = some c5 := by
  obtain ⟨a, b, c, d, e, f, _⟩ := RwKit.six_at h
  exact ⟨h, a, b, c, d, e, f⟩
set_option maxHeartbeats 2000000 in
set_option maxRecDepth 100000 in
theorem farWords_any {b : Box} {WA MA K : Option Addr} {wn wc mn mc kn kc B : Nat} {ks : List Int} {w : World} (hx : StrsAt w B WA wn b.words) (hk : IntsAt w B K kn ks) (hB : B ≤ w.heap.size) (h0 : 0 < kn) (h6 : kn ≤ 60000) :
    Calls Tryz.prog 98 #[.agg #[.string b.id, .int .i64 b.valid, .int .i64 b.next, .int .i64 b.high, .slice WA wn wc, .slice MA mn mc], .slice K kn kc] w (WdPost (wordsOf b.words (farK ks)) w) := by
  obtain rfl := hk.len
  have HB := Lib.hid ((Below.refl w.heap.size w).alloc (Nat.le_refl _) (.cells #[.string b.id, .int .i64 b.valid, .int .i64 b.next, .int .i64 b.high, .slice WA wn wc, .slice MA mn mc] 25))
  have HR := Lib.hid (heap_alloc_new w (.cells #[.string b.id, .int .i64 b.valid, .int .i64 b.next, .int .i64 b.high, .slice WA wn wc, .slice MA mn mc] 25))
  have hs0 : (w.alloc (.cells #[.string b.id, .int .i64 b.valid, .int .i64 b.next, .int .i64 b.high, .slice WA wn wc, .slice MA mn mc] 25)).heap.size = w.heap.size + 1 := by simp
  have HX := Lib.hid hx
  have HK := Lib.hid hk
  clear hx hk
  go_enter Tryz.func98, Tryz.ntmps98
  go_upto_region 2 with fail
  generalize (World.alloc w _) = w1 at HB HR hs0 ⊢
  have KC := Lib.hid (fun (wr : World) (hb : Below w.heap.size w wr) => clone_any (kc := kc) (IntsAt.below HK.out hb hB) (show B ≤ wr.heap.size by have := hb.size; omega) (show ks.length ≤ 1000000 by omega))
  have bd := HB.out.drew
  have SD := six_of (wr := w1.drew) (show w1.drew.heap[w.heap.size]? = _ from HR.out)
  go_region_held3 (fun wr => wr.heap[w.heap.size]? = some (.cells #[.string b.id, .int .i64 b.valid, .int .i64 b.next, .int .i64 b.high, .slice WA wn wc, .slice MA mn mc] 25 (0, 0)) ∧ wr.cell? { block := w.heap.size, off := 0 } = some (.string b.id) ∧ wr.cell? { block := w.heap.size, off := 1 } = some (.int .i64 b.valid) ∧ wr.cell? { block := w.heap.size, off := 2 } = some (.int .i64 b.next) ∧ wr.cell? { block := w.heap.size, off := 3 } = some (.int .i64 b.high) ∧ wr.cell? { block := w.heap.size, off := 4 } = some (.slice WA wn wc) ∧ wr.cell? { block := w.heap.size, off := 5 } = some (.slice MA mn mc))
    (with_reducible first | exact SD | exact six_of R2.out | exact six_of R3.out | exact six_of R4.out | go_keep) (first
    | (go_at_call 125
       ((with_reducible refine (KC.out _ ?d1).mono ?_); rotate_left)
       case d1 => first | exact HB.out | exact bd
       go_loud (
       rintro e w2 ⟨K2, k2, rfl, hown, hb2⟩
       have B2 := Lib.hid (show Below w.heap.size w w2 by first | exact HB.out.trans (hb2.mono HB.out.size) | exact bd.trans (hb2.mono bd.size))
       have R2 := Lib.hid (show w2.heap[w.heap.size]? = _ from (show w2.heap[w.heap.size]? = w1.heap[w.heap.size]? from hb2.block _ (by show _ < w1.heap.size; omega)).trans HR.out)
       have hz2 : w1.heap.size ≤ w2.heap.size := hb2.size
       have KD := Lib.hid (del_any (BxC.own_base hown (show w.heap.size + 1 ≤ _ by first | (show _ ≤ w1.heap.size; omega) | omega)) (by omega) (by omega))
       clear hown hb2
       dsimp only))
    | (go_at_call 124; go_loud (
       refine KD.out.mono ?_
       rintro e w3 ⟨K3, k3, rfl, hz3, hb3⟩
       have B3 := Lib.hid (B2.out.trans (hb3.mono (by omega)))
       have R3 := Lib.hid ((hb3.block _ (by omega)).trans R2.out)
       have hs3 : w2.heap.size ≤ w3.heap.size := hb3.size
       have KW := Lib.hid (words_any (bid := b.id) (bv := b.valid) (bn := b.next) (bh := b.high) (wc := wc) (MA := MA) (mn := mn) (mc := mc) (u := 0) (md := 0) (d := 0) (id := ⟨#[]⟩) (fl := 0) (tx := ⟨#[]⟩) (kc := k3) (StrsAt.below HX.out B3.out hB) hz3 (show B ≤ w3.heap.size by omega) (Nat.le_refl _) (by have : (farK ks).length ≤ ks.length := List.length_filter_le _ _; omega))
       clear hz3 hb3
       dsimp only))
    | (go_at_call 18; go_loud (
       refine KW.out.mono ?_
       rintro e w4 ⟨A4, n4, c4, rfl, hnc4, hz4, hb4⟩
       have Z4 := Lib.hid hz4
       have R4 := Lib.hid ((hb4.block _ (by omega)).trans R3.out)
       have B4 := Lib.hid (B3.out.trans (hb4.mono B3.out.size))
       clear hz4 hb4
       dsimp only)))
  all_goals
    go_wp2_with fail
    go_ret
    exact ⟨A4, n4, c4, rfl, hnc4, Z4.out, B4.out⟩
theorem words_le {K : Nat} {ws : List ByteArray} (h : ∀ x ∈ ws, x.size ≤ K) (ks : List Int) : ∀ x ∈ wordsOf ws ks, x.size ≤ K := by
  intro x hx
  obtain ⟨k, _, hk⟩ := List.mem_flatMap.1 hx
  unfold word1 at hk
  split at hk
  · cases hw : ws[k.toNat]? with
    | none => rw [hw] at hk; cases hk
    | some y =>
      rw [hw] at hk
      obtain rfl : x = y := by simpa using hk
      exact h x (List.mem_of_getElem? hw)
  · cases hk
theorem words_few (ws : List ByteArray) : ∀ ks : List Int, (wordsOf ws ks).length ≤ ks.length
  | [] => Nat.le_refl _
  | k :: r => by
    have h := words_few ws r
    have h1 : (word1 ws k).length ≤ 1 := by
      unfold word1
      split
      · cases ws[k.toNat]? <;> simp
      · simp
    unfold wordsOf at h ⊢
    rw [List.flatMap_cons, List.length_append, List.length_cons]
    omega
theorem far_le {ws : List ByteArray} {ks : List Int} (h : ∀ x ∈ ws, x.size ≤ 24) (hk : ks.length ≤ 64) : (jn (wordsOf ws (farK ks))).length ≤ 1600 := by
  have h1 := jn_le (words_le h (farK ks))
  have h2 := words_few ws (farK ks)
  have h3 : (farK ks).length ≤ ks.length := List.length_filter_le _ _
  have h4 : (wordsOf ws (farK ks)).length * 25 ≤ 64 * 25 := Nat.mul_le_mul_right _ (by omega)
  omega
set_option maxHeartbeats 2000000 in
set_option maxRecDepth 100000 in
theorem lost_any {b : Box} {WA MA K : Option Addr} {wn wc mn mc kn kc B : Nat} {kd ru rm u md d fl : Int} {id tx t : ByteArray} {ks : List Int} {w : World} (ht : BxO.Tab w) (hx : StrsAt w B WA wn b.words) (hk : IntsAt w B K kn ks) (hB : B ≤ w.heap.size) (h6 : kn ≤ 64) (hw : ∀ x ∈ b.words, x.size ≤ 24) (h2 : kd = 2 → 0 < kn) (hr1 : -9223372036854775808 ≤ rm) (hr2 : rm ≤ 9223372036854775807) :
    Calls Tryz.prog 63 #[.agg #[.string b.id, .int .i64 b.valid, .int .i64 b.next, .int .i64 b.high, .slice WA wn wc, .slice MA mn mc], .agg #[.int .i64 kd, .int .i64 ru, .int .i64 rm, .int .i64 u, .int .i64 md, .int .i64 d, .string id, .int .i64 fl, .slice K kn kc, .string tx, .string t]] w fun e w' => e = .returned (.string (lostT b.words ⟨kd, ru, rm, ⟨u, md, d, id, fl, ks, tx⟩, t⟩)) ∧ Below w.heap.size w w' := by
  obtain rfl := hk.len
  have hb0 := (Below.refl w.heap.size w).alloc (Nat.le_refl _) (.cells #[.string b.id, .int .i64 b.valid, .int .i64 b.next, .int .i64 b.high, .slice WA wn wc, .slice MA mn mc] 25)
  have HB := Lib.hid (hb0.alloc hb0.size (.cells #[.int .i64 kd, .int .i64 ru, .int .i64 rm, .int .i64 u, .int .i64 md, .int .i64 d, .string id, .int .i64 fl, .slice K ks.length kc, .string tx, .string t] 76))
  have hs0 : (w.alloc (.cells #[.string b.id, .int .i64 b.valid, .int .i64 b.next, .int .i64 b.high, .slice WA wn wc, .slice MA mn mc] 25)).heap.size = w.heap.size + 1 := by simp
  have hrr := heap_alloc_new (w.alloc (.cells #[.string b.id, .int .i64 b.valid, .int .i64 b.next, .int .i64 b.high, .slice WA wn wc, .slice MA mn mc] 25)) (.cells #[.int .i64 kd, .int .i64 ru, .int .i64 rm, .int .i64 u, .int .i64 md, .int .i64 d, .string id, .int .i64 fl, .slice K ks.length kc, .string tx, .string t] 76)
  rw [hs0] at hrr
  have hb := (heap_alloc_old (w.alloc (.cells #[.string b.id, .int .i64 b.valid, .int .i64 b.next, .int .i64 b.high, .slice WA wn wc, .slice MA mn mc] 25)) (.cells #[.int .i64 kd, .int .i64 ru, .int .i64 rm, .int .i64 u, .int .i64 md, .int .i64 d, .string id, .int .i64 fl, .slice K ks.length kc, .string tx, .string t] 76) (show w.heap.size < _ by rw [hs0]; omega)).trans (heap_alloc_new w (.cells #[.string b.id, .int .i64 b.valid, .int .i64 b.next, .int .i64 b.high, .slice WA wn wc, .slice MA mn mc] 25))
  have hs1 : ((w.alloc (.cells #[.string b.id, .int .i64 b.valid, .int .i64 b.next, .int .i64 b.high, .slice WA wn wc, .slice MA mn mc] 25)).alloc (.cells #[.int .i64 kd, .int .i64 ru, .int .i64 rm, .int .i64 u, .int .i64 md, .int .i64 d, .string id, .int .i64 fl, .slice K ks.length kc, .string tx, .string t] 76)).heap.size = w.heap.size + 2 := by simp
  have HX := Lib.hid hx
  have HK := Lib.hid hk
  have HT := Lib.hid ht
  have HW := Lib.hid hw
  obtain ⟨T, hT⟩ : ∃ T, T = lostT b.words ⟨kd, ru, rm, ⟨u, md, d, id, fl, ks, tx⟩, t⟩ := ⟨_, rfl⟩
  have HTT := Lib.hid hT
  rw [← hT]
  clear hx hk hb0 ht hw hT hs0
  go_enter Tryz.func63, Tryz.ntmps63
  go_upto_region 1 with fail
  generalize (World.alloc (World.alloc w _) _) = w1 at HB hrr hb hs1 ⊢
  have c := fun o => cell_of_row _ (w.heap.size + 1) o _ _ _ hrr
  have r0 := (c 0).trans (show _ = some (Value.int .i64 kd) from rfl)
  have r2 := (c 2).trans (show _ = some (Value.int .i64 rm) from rfl)
  have r8 := (c 8).trans (show _ = some (Value.slice K ks.length kc) from rfl)
  have r10 := (c 10).trans (show _ = some (Value.string t) from rfl)
  clear c hrr
  obtain ⟨b0, b1, b2, b3, b4, b5, _⟩ := RwKit.six_at hb
  clear hb
  have KI := Lib.hid (itoa_any (n := rm) (HT.out.below HB.out (Nat.le_refl _)) hr1 hr2)
  by_cases k2 : kd = 2
  · subst k2
    have KF := Lib.hid (farWords_any (b := b) (wc := wc) (MA := MA) (mn := mn) (mc := mc) (kc := kc) (StrsAt.below HX.out HB.out hB) (IntsAt.below HK.out HB.out hB) (show B ≤ w1.heap.size by omega) (h2 rfl) (by omega))
    have hfl := far_le (ks := ks) HW.out h6
    go_wp2_with (first
      | (go_at_call 98; go_loud (
         refine KF.out.mono ?_
         rintro e w2 ⟨A2, n2, c2, rfl, hnc2, hz2, hb2⟩
         have HB2 := Lib.hid (HB.out.trans (hb2.mono HB.out.size))
         have KJ := Lib.hid (join_any hz2 (Nat.le_refl _) hnc2 (by omega))
         clear hz2 hb2))
      | (go_at_call 97; go_loud (
         refine KJ.out.mono ?_
         rintro e w3 ⟨rfl, hb3⟩
         have HB3 := Lib.hid (HB2.out.trans (hb3.mono HB2.out.size))
         clear hb3)))
    go_ret
    refine ⟨?_, HB3.out⟩
    rw [HTT.out]
    rfl
  have k2b : (kd == 2) = false := by simpa using k2
  by_cases k6 : kd = 6
  · subst k6
    go_wp2_with (go_at_call 64; go_loud (refine KI.out.mono ?_; rintro e w2 ⟨rfl, hb2⟩))
    go_ret
    refine ⟨?_, HB.out.trans (hb2.mono HB.out.size)⟩
    rw [HTT.out]
    rfl
  have k6b : (kd == 6) = false := by simpa using k6
  by_cases k7 : kd = 7
  · subst k7
    go_wp2_with (go_at_call 64; go_loud (refine KI.out.mono ?_; rintro e w2 ⟨rfl, hb2⟩))
    go_ret
    refine ⟨?_, HB.out.trans (hb2.mono HB.out.size)⟩
    rw [HTT.out]
    rfl
  have k7b : (kd == 7) = false := by simpa using k7
  go_wp2_with fail
  go_ret
  refine ⟨?_, HB.out⟩
  rw [HTT.out]
  unfold lostT
  rw [if_neg k2, if_neg (by rintro (h | h) <;> contradiction)]
  rfl
end Go.Proofs.YtchlbbndfhibgaaGreatDoor.LwK
