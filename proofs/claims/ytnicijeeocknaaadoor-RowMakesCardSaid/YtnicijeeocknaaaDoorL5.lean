/-
  RwW13 + RwW14
-/
import Derived.Test.YtnicijeeocknaaaDoorJ2
import Derived.Test.YtnicijeeocknaaaDoorL1
import Derived.Test.YtnicijeeocknaaaDoorN5
import Derived.Test.YtnicijeeocknaaaDoorRwRo
import Derived.Lib.AppendZeros
import Derived.Laws.MakeOwn
set_option linter.unusedVariables false
set_option linter.unusedSimpArgs false
namespace Go.Proofs.YtnicijeeocknaaaDoor.RwW13
open Go.RowKit Go.Proofs.YtnicijeeocknaaaDoor.BxD Go.Proofs.YtnicijeeocknaaaDoor.BxKit Go.Proofs.YtnicijeeocknaaaDoor.BxA Go.Proofs.YtnicijeeocknaaaDoor.BxR Go.Proofs.YtnicijeeocknaaaDoor.BxC Go.Proofs.YtnicijeeocknaaaDoor.BxV Go.Proofs.YtnicijeeocknaaaDoor.RwD Go.Proofs.YtnicijeeocknaaaDoor.RwM

section
open Go.Proofs.YtnicijeeocknaaaDoor.FlA Go.Proofs.YtnicijeeocknaaaDoor.FlB Go.Proofs.YtnicijeeocknaaaDoor.FlC Go.Proofs.YtnicijeeocknaaaDoor.FlK
theorem atom_bit0 {s : ByteArray} (h : FlB.atB s = true) : bitOf s = 0 := by
  have hno : ∀ k, k < 5 → alB (nameAt k) s = false := by
    intro k hk
    cases hq : alB (nameAt k) s with
    | false => rfl
    | true =>
      exfalso
      have hm : (nameAt k).data.toList.map sm = s.data.toList.map sm := by
        unfold alB at hq
        simpa using hq
      have h0 : ∀ k, k < 5 → ∃ r, (nameAt k).data.toList.map sm = 92 :: r := five ⟨_, rfl⟩ ⟨_, rfl⟩ ⟨_, rfl⟩ ⟨_, rfl⟩ ⟨_, rfl⟩
      obtain ⟨r, hr⟩ := h0 k hk
      rw [hr] at hm
      unfold FlB.atB at h
      simp only [Bool.and_eq_true] at h
      have hall := h.2
      cases hl : s.data.toList with
      | nil => rw [hl] at hm; simp at hm
      | cons c t =>
        rw [hl, List.map_cons] at hm
        rw [hl, List.all_cons, Bool.and_eq_true] at hall
        have hc : sm c = 92 := by injection hm with h1 _; exact h1.symm
        have hc2 : c.toNat = 92 := by
          unfold sm at hc
          split at hc <;> omega
        have : c = 92 := by apply UInt8.toNat_inj.1; rw [hc2]; rfl
        rw [this] at hall
        exact absurd hall.1 (by decide)
  exact bitOf_none hno
end
theorem atB_eq (s : ByteArray) : FlB.atB s = BxD.atB s := rfl
theorem atom_bit {s : ByteArray} (h : BxD.atB s = true) : FlC.bitOf s = 0 := atom_bit0 h
/-- As many words as names: each is a word, none is there twice. -/
theorem wd_full {zs : List ByteArray} : ∀ k, k ≤ zs.length → (FlM.wd zs k).length = k → FlM.wd zs k = zs.take k ∧ (∀ z ∈ zs.take k, FlC.bitOf z = 0) ∧ (zs.take k).Nodup
  | 0, _, _ => by simp [FlM.wd]
  | k + 1, hk, hl => by
    have hx := List.getElem?_eq_getElem (l := zs) (i := k) (by omega)
    have hs := FlM.wd_succ hx
    have hle := FlM.wd_le zs k
    rw [hs] at hl
    unfold FlM.addW at hl hs
    by_cases hb : FlC.bitOf zs[k] ≠ 0
    · rw [if_pos hb] at hl; omega
    · rw [if_neg hb] at hl hs
      have hb0 : FlC.bitOf zs[k] = 0 := by omega
      by_cases hm : zs[k] ∈ FlM.wd zs k
      · rw [if_pos hm] at hl; omega
      · rw [if_neg hm] at hl hs
        rw [List.length_append, List.length_singleton] at hl
        obtain ⟨h1, h2, h3⟩ := wd_full (zs := zs) k (by omega) (by omega)
        have ht := List.take_succ_eq_append_getElem (l := zs) (i := k) (by omega)
        refine ⟨by rw [hs, h1, ht], fun z hz => ?_, ?_⟩
        · rw [ht] at hz
          rcases List.mem_append.1 hz with hz | hz
          · exact h2 z hz
          · obtain rfl := List.mem_singleton.1 hz
            exact hb0
        · rw [ht, List.nodup_append]
          exact ⟨h3, by simp, fun a ha c hc e => by obtain rfl := List.mem_singleton.1 hc; subst e; exact hm (by rw [h1]; exact ha)⟩
theorem wd_words {zs : List ByteArray} (h1 : ∀ z ∈ zs, BxD.atB z = true) (h2 : zs.Nodup) : ∀ k, k ≤ zs.length → FlM.wd zs k = zs.take k
  | 0, _ => by simp [FlM.wd]
  | k + 1, hk => by
    have hx := List.getElem?_eq_getElem (l := zs) (i := k) (by omega)
    have ih := wd_words h1 h2 k (by omega)
    have ht := List.take_succ_eq_append_getElem (l := zs) (i := k) (by omega)
    rw [FlM.wd_new hx (atom_bit (h1 _ (List.mem_of_getElem? hx))) ?_, ih, ht]
    rw [ih, List.mem_take_iff_getElem]
    intro ⟨j, hj, e⟩
    exact List.pairwise_iff_getElem.1 h2 j k (by omega) (by omega) (by omega) e
theorem words_iff {zs : List ByteArray} : ((∀ z ∈ zs, FlD.good z) ∧ (FlM.wd zs zs.length).length = zs.length) ↔ wordsB zs = true := by
  rw [wordsB_iff]
  constructor
  · intro ⟨h1, h2⟩
    obtain ⟨_, h3, h4⟩ := wd_full zs.length (Nat.le_refl _) h2
    rw [List.take_length] at h3 h4
    exact ⟨fun z hz => (h1 z hz).elim (fun e => absurd (h3 z hz) e) id, h4⟩
  · intro ⟨h1, h2⟩
    exact ⟨fun z hz => .inr (h1 z hz), by rw [wd_words h1 h2 _ (Nat.le_refl _), List.take_length]⟩
set_option maxHeartbeats 2000000 in
set_option maxRecDepth 100000 in
theorem mayWords_any {A : Option Addr} {n cp B : Nat} {zs : List ByteArray} {w : World} (hn : FlK.Names w) (hz : StrsAt w B A n zs) (hB : B ≤ w.heap.size) (hl : n ≤ 8796093022208) :
    Calls Tryd.prog 16 #[.slice A n cp] w fun e w' => e = .returned (.bool (wordsB zs)) ∧ Below w.heap.size w w' := by
  have hsz : ∀ z ∈ zs, z.size ≤ maxLen := fun z h => by have := strs_size hz z h; unfold maxLen; omega
  have harg : FlArg.StrsAt w A n zs := ⟨hz.len, fun h0 => by
    obtain ⟨ad, e, hlt, hc⟩ := hz.2.2 h0
    exact ⟨ad, e, by omega, fun j z hj => by have := (hc j z hj).1; rwa [Nat.mul_one] at this⟩⟩
  have K := Lib.hid (FlD.split_any A n cp zs w hn harg hsz hl)
  have hln := hz.len
  have HLN := Lib.hid hln
  clear hn hz hsz harg hln
  obtain ⟨b, hb⟩ : ∃ b, b = wordsB zs := ⟨_, rfl⟩
  have HBB := Lib.hid hb
  rw [← hb]
  clear hb
  go_enter Tryd.func16, Tryd.ntmps16
  go_upto_region 1 with fail
  go_upto_region 2 with (go_at_call 44; go_loud (
     refine K.out.mono ?_
     rintro e w1 hsq
     rcases hsq with ⟨hg, v, rfl, ho, hb1⟩ | ⟨hbad, rfl, hb1⟩))
  · obtain ⟨A1, k1, rfl, _⟩ := own_slice ho
    have HG := Lib.hid hg
    have HB1 := Lib.hid hb1
    obtain ⟨m, hm⟩ : ∃ m, m = (FlM.wd zs zs.length).length := ⟨_, rfl⟩
    rw [← hm]
    have HM := Lib.hid hm
    clear hg hb1 ho hm
    by_cases hq : m = n
    · have hw : b = true := by
        rw [HBB.out, ← words_iff]
        exact ⟨HG.out, by rw [← HM.out, hq, HLN.out]⟩
      have hqi : ((m : Int) == (n : Int)) = true := by rw [hq]; simp
      clear hq
      have HWW := Lib.hid hw
      clear hw
      go_wp2_with fail
      go_ret
      exact ⟨ret_bool HWW.out.symm, HB1.out⟩
    · have hw : b = false := by
        cases hbv : b with
        | false => rfl
        | true =>
          have := words_iff.2 (HBB.out.symm.trans hbv)
          exact absurd (by rw [HM.out, this.2, HLN.out]) hq
      have hqi : ((m : Int) == (n : Int)) = false := by rw [beq_eq_false_iff_ne]; omega
      clear hq
      have HWW := Lib.hid hw
      clear hw
      go_wp2_with fail
      go_ret
      exact ⟨ret_bool HWW.out.symm, HB1.out⟩
  · have hw : b = false := by
      cases hbv : b with
      | false => rfl
      | true =>
        have := words_iff.2 (HBB.out.symm.trans hbv)
        obtain ⟨z, hz, hng⟩ := hbad
        exact absurd (this.1 z hz) hng
    have HB1 := Lib.hid hb1
    clear hb1 hbad
    have HWW := Lib.hid hw
    clear hw
    go_wp2_with fail
    go_ret
    exact ⟨ret_bool HWW.out.symm, HB1.out⟩
/-- A row of texts of the call's own. -/
def OwS (l : List ByteArray) (w : World) (e : Ending) (w' : World) : Prop :=
  ∃ A c, e = .returned (.slice A l.length c) ∧ w'.ownsRow w.heap.size 9 1 (.slice A l.length c) l.length (l.map Value.string) ∧ Below w.heap.size w w'
theorem newW_snoc {ws zs : List ByteArray} {k : Nat} {x : ByteArray} (hx : zs[k]? = some x) : newW ws (zs.take (k + 1)) = newW ws (zs.take k) ++ (if x ∈ ws then [] else [x]) := by
  obtain ⟨hl, rfl⟩ := List.getElem?_eq_some_iff.1 hx
  unfold newW
  rw [List.take_succ_eq_append_getElem hl, List.filter_append]
  congr 1
  by_cases h : zs[k] ∈ ws <;> simp [h]
set_option maxHeartbeats 2000000 in
set_option maxRecDepth 100000 in
theorem without_any {A O : Option Addr} {n cp on oc B B1 : Nat} {zs ws : List ByteArray} {w : World} (hz : StrsAt w B A n zs) (ho : StrsAt w B1 O on ws) (hB : B ≤ w.heap.size) (hB1 : B1 ≤ w.heap.size) (hl : n ≤ 1000000) :
    Calls Tryd.prog 17 #[.slice A n cp, .slice O on oc] w (OwS (newW ws zs) w) := by
  have HZ := Lib.hid hz
  have HW := Lib.hid ho
  clear hz ho
  go_enter Tryd.func17, Tryd.ntmps17
  go_wp2_with fail
  go_loopw [10, 5] (fun s10 s5 wr => ∃ (k m : Nat) (v : Value), v = s5 ∧ k ≤ n ∧ m ≤ k ∧ s10 = .int .i64 k ∧ Hid (m = (newW ws (zs.take k)).length) ∧ Hid (Below w.heap.size w wr) ∧ Hid (wr.ownsRow w.heap.size 9 1 v m ((newW ws (zs.take k)).map Value.string))) (fun s10 _ _ => n - (intOf s10).toNat)
  case atStart => exact ⟨0, 0, _, rfl, Nat.zero_le _, Nat.le_refl _, rfl, by simp [newW, Hid], Below.refl _ _, by rw [List.take_zero]; exact World.ownsRow_nil _ _ _ _⟩
  case round =>
    obtain ⟨k, m, v, rfl, hk, hm, rfl, HM, HB, HO⟩ := hrel
    have hsz := HB.out.size
    by_cases hlt : k < n
    · obtain ⟨ad, x, rfl, e1, c1⟩ := StrsAt.at_ HZ.out HB.out hB hlt
      have KC := Lib.hid (contains_any (cp := oc) x (StrsAt.below HW.out HB.out hB1))
      have hsn := newW_snoc (ws := ws) e1
      by_cases hin : x ∈ ws
      · have kc := KC.out
        rw [decide_eq_true hin] at kc
        rw [if_pos hin, List.append_nil] at hsn
        have KC1 := Lib.hid kc
        have HSN := Lib.hid hsn
        clear kc hsn KC hin e1
        go_wp2_with (go_at_call 45; refine KC1.out.mono ?_; rintro e w' ⟨rfl, rfl⟩)
        go_roundw
        case rel => exact ⟨k + 1, m, _, rfl, by omega, by omega, by go_num, by rw [HSN.out]; exact HM.out, HB, by rw [HSN.out]; exact HO.out⟩
        case measure => simp [intOf]; omega
      · have kc := KC.out
        rw [decide_eq_false hin] at kc
        rw [if_neg hin] at hsn
        have KC1 := Lib.hid kc
        have HSN := Lib.hid hsn
        clear kc hsn KC hin e1
        have HS := Lib.hid (src_new wr #[.string x] 9 (m := 1) (sz := 1) rfl rfl (fun u hu => by simp at hu; subst hu; rfl))
        have HO5 := Lib.hid (HO.out.alloc (.cells #[.string x] 9))
        have HSZ := Lib.hid (show w.heap.size ≤ (wr.alloc (.cells #[.string x] 9)).heap.size by simp; omega)
        go_wp2_with (first
          | (go_at_call 45; refine KC1.out.mono ?_; rintro e w' ⟨rfl, rfl⟩)
          | (at_builtin; go_loud (
             refine wpList_rows elS rfl _ _ rfl rfl rfl HO5.out HS.out (by unfold maxLen; omega) (by omega) HSZ.out ?_
             intro v6 w6 hown hg6 _
             have HO6 := Lib.hid (show w6.ownsRow w.heap.size 9 1 v6 (m + 1) ((newW ws (zs.take (k + 1))).map Value.string) by rw [HSN.out, List.map_append]; exact hown)
             have HB6 := Lib.hid ((HB.out.alloc hsz (.cells #[.string x] 9)).grown hg6 (by simp; omega) (fun g e => (HO.out.lt g e).1))
             clear hown hg6)))
        go_roundw
        case rel => exact ⟨k + 1, m + 1, _, rfl, by omega, by omega, by go_num, by rw [HSN.out, List.length_append, ← HM.out]; rfl, HB6, HO6⟩
        case measure => simp [intOf]; omega
    · obtain rfl : n = k := by omega
      have ht : zs.take n = zs := List.take_of_length_le (by rw [HZ.out.len]; omega)
      have ho := HO.out
      have hm := HM.out
      rw [ht] at ho hm
      subst hm
      obtain ⟨A6, k6, rfl, hk6⟩ := own_slice ho
      have HP := Lib.hid (show OwS (newW ws zs) w (.returned (.slice A6 (newW ws zs).length k6)) wr from ⟨A6, k6, rfl, ho, HB.out⟩)
      clear ho ht
      go_wp2_with fail
      go_ret
      exact HP.out
end Go.Proofs.YtnicijeeocknaaaDoor.RwW13

namespace Go.Proofs.YtnicijeeocknaaaDoor.RwW14
open Go.RowKit Go.Proofs.YtnicijeeocknaaaDoor.BxD Go.Proofs.YtnicijeeocknaaaDoor.BxKit Go.Proofs.YtnicijeeocknaaaDoor.BxA Go.Proofs.YtnicijeeocknaaaDoor.BxR Go.Proofs.YtnicijeeocknaaaDoor.BxC Go.Proofs.YtnicijeeocknaaaDoor.BxV Go.Proofs.YtnicijeeocknaaaDoor.RwD Go.Proofs.YtnicijeeocknaaaDoor.RwM Go.Proofs.YtnicijeeocknaaaDoor.RwRo Go.Proofs.YtnicijeeocknaaaDoor.RwW13

def GrPost (w : World) (e : Ending) (w' : World) : Prop :=
  ∃ v, e = .returned v ∧ w'.ownsRow w.heap.size 9 1 v 0 [] ∧ Below w.heap.size w w'
theorem own_room {w : World} {n : Nat} (hn : n ≤ 1000000) (zs : Array Value) (hz : zs.size = grownCap w n 0 9) :
    (w.drew.alloc (.cells zs 9)).ownsRow w.heap.size 9 1 (.slice (some ⟨w.heap.size, 0, none⟩) 0 (grownCap w n 0 9)) 0 [] := by
  refine ⟨rfl, .inr ⟨w.heap.size, grownCap w n 0 9, zs, rfl, Nat.le_refl _, heap_alloc_new w.drew _, Nat.zero_le _, grownCap_le_maxLen w _ _ _ (by unfold maxLen; omega), by rw [hz, Nat.mul_one], by simp⟩⟩
set_option maxHeartbeats 1000000 in
set_option maxRecDepth 100000 in
theorem grow_none (w : World) : Calls Tryd.prog 47 #[.slice none 0 0, .int .i64 ((0 : Nat) : Int)] w (GrPost w) := by
  go_enter Tryd.func47, Tryd.ntmps47
  go_wp2_with fail
  go_ret
  exact ⟨_, rfl, World.ownsRow_nil _ _ _ _, Below.refl _ _⟩
set_option maxHeartbeats 1000000 in
set_option maxRecDepth 100000 in
theorem grow_some {n : Nat} (w : World) (h0 : 0 < n) (hn : n ≤ 1000000) : Calls Tryd.prog 47 #[.slice none 0 0, .int .i64 (n : Int)] w (GrPost w) := by
  obtain ⟨i0, hi, hz0, hz1, hz2⟩ := info_parts elS.info
  obtain ⟨G, hG⟩ : ∃ G, G = grownCap w n 0 9 := ⟨_, rfl⟩
  have hGn : n ≤ G := by rw [hG]; exact grownCap_ge w _ _ _
  have hGm : G ≤ maxLen := by rw [hG]; exact grownCap_le_maxLen w _ _ _ (by unfold maxLen; omega)
  obtain ⟨zs, hzs⟩ : ∃ zs, zs = Builtin.zeroCells (Value.string ⟨#[]⟩).cells n ++ Builtin.zeroCells (Value.string ⟨#[]⟩).cells (G - n) := ⟨_, rfl⟩
  have hzl : zs.size = G := by rw [hzs]; simp [Builtin.zeroCells, Value.cells]; omega
  have hap := fun ty => Lib.run_append_nil_zeros (P := Tryd.prog) w 22 3 ty 9 i0 (.string ⟨#[]⟩) .i64 .i64 Tryd.underlying22 Tryd.underlying3 hi hz0 n h0 (by omega) (by omega) (by rw [hz2]; omega)
  rw [← hG, ← hzs] at hap
  have HAP := Lib.hid hap
  have HO := Lib.hid (own_room hn zs (by rw [hzl, hG]))
  rw [← hG] at HO
  have hgl : G ≤ 9223372036854775807 := by unfold maxLen at hGm; omega
  have hd1 : (0 : Int) ≤ (n : Int) := by omega
  have hd2 : (0 : Int) < (n : Int) := by omega
  clear hap hG hzs hzl hi hz0 hz1 hz2 hGm
  go_enter Tryd.func47, Tryd.ntmps47
  go_wp2_with (at_builtin; go_loud (refine Lib.wpList_append_run _ rfl _ _ _ _ rfl _ _ rfl rfl _ _ (HAP.out _) ?_))
  go_ret
  exact ⟨_, rfl, HO.out, ((Below.drew (Below.refl w.heap.size w)).alloc (Nat.le_refl _) _)⟩
theorem grow_any {n : Nat} (w : World) (hn : n ≤ 1000000) : Calls Tryd.prog 47 #[.slice none 0 0, .int .i64 (n : Int)] w (GrPost w) := by
  rcases Nat.eq_zero_or_pos n with rfl | h0
  · exact grow_none w
  · exact grow_some w h0 hn
set_option maxHeartbeats 4000000 in
set_option maxRecDepth 100000 in
theorem concat_any {A1 A2 : Option Addr} {n1 c1 n2 c2 B1 B2 g : Nat} {xs ys : List ByteArray} {w : World} (h1 : StrsAt w B1 A1 n1 xs) (h2 : StrsAt w B2 A2 n2 ys) (hB1 : B1 ≤ w.heap.size) (hB2 : B2 ≤ w.heap.size) (hl : n1 + n2 ≤ 1000000)
    (k0 : w.cell? { block := g, off := 0 } = some (.slice A1 n1 c1)) (k1 : w.cell? { block := g, off := 1 } = some (.slice A2 n2 c2)) (hg : g < w.heap.size) :
    Calls Tryd.prog 19 #[.slice (some ⟨g, 0, none⟩) 2 2] w (OwS (xs ++ ys) w) := by
  have H1 := Lib.hid h1
  have H2 := Lib.hid h2
  have K0 := Lib.hid k0
  have K1 := Lib.hid k1
  have hlx := h1.len
  have hly := h2.len
  have HLX := Lib.hid hlx
  have HLY := Lib.hid hly
  clear h1 h2 hlx hly
  obtain ⟨N, hN⟩ : ∃ N, N = n1 + n2 := ⟨_, rfl⟩
  have hNi : (n1 : Int) + (n2 : Int) = (N : Int) := by omega
  have hN6 : N ≤ 1000000 := by omega
  have HN := Lib.hid hN
  clear hN
  go_enter Tryd.func19, Tryd.ntmps19
  go_upto_region 9 with fail
  go_loopw [11, 3] (fun s11 s3 wr => wr = w ∧ ((s11 = .int .i64 0 ∧ s3 = .int .i64 0) ∨ (s11 = .int .i64 1 ∧ s3 = .int .i64 n1) ∨ (s11 = .int .i64 2 ∧ s3 = .int .i64 N))) (fun s11 _ _ => 2 - (intOf s11).toNat)
  case atStart => exact ⟨rfl, .inl ⟨rfl, rfl⟩⟩
  case round =>
    obtain ⟨rfl, ⟨rfl, rfl⟩ | ⟨rfl, rfl⟩ | ⟨rfl, rfl⟩⟩ := hrel
    · go_wp2_with fail
      go_roundw
      case rel => exact ⟨trivial, .inr (.inl ⟨by go_num, by go_num⟩)⟩
      case measure => simp [intOf]
    · go_wp2_with fail
      go_roundw
      case rel => exact ⟨trivial, .inr (.inr ⟨by go_num, by go_num⟩)⟩
      case measure => simp [intOf]
    · have KG := Lib.hid (grow_any wr hN6)
      go_upto_region 10 with (go_at_call 47; go_loud (
         refine KG.out.mono ?_
         rintro e w1 ⟨v1, rfl, ho1, hb1⟩
         have HO1 := Lib.hid ho1
         have HB1 := Lib.hid hb1
         clear ho1 hb1))
      go_wp2_with fail
      obtain ⟨w0, hw0⟩ : ∃ w0, w0 = wr := ⟨_, rfl⟩
      rw [← hw0] at HO1 HB1 H1 H2 K0 K1 hB1 hB2 hg ⊢
      have HW0 := Lib.hid hw0
      clear KG hw0
      go_loopw [27, 6] (fun s27 s6 wr => ∃ v : Value, v = s6 ∧ Hid (Below w0.heap.size w0 wr) ∧ ((s27 = .int .i64 0 ∧ Hid (wr.ownsRow w0.heap.size 9 1 v 0 [])) ∨ (s27 = .int .i64 1 ∧ Hid (wr.ownsRow w0.heap.size 9 1 v n1 (xs.map Value.string))) ∨ (s27 = .int .i64 2 ∧ Hid (wr.ownsRow w0.heap.size 9 1 v N ((xs ++ ys).map Value.string))))) (fun s27 _ _ => 2 - (intOf s27).toNat)
      case atStart => exact ⟨_, rfl, HB1, .inl ⟨rfl, HO1⟩⟩
      case round =>
        clear HO1 HB1
        obtain ⟨v, rfl, HB, hc⟩ := hrel
        have k0' : wr.cell? { block := g, off := 0 } = some (.slice A1 n1 c1) := (HB.out.cell (p := ⟨g, 0, none⟩) hg).trans K0.out
        have k1' : wr.cell? { block := g, off := 1 } = some (.slice A2 n2 c2) := (HB.out.cell (p := ⟨g, 1, none⟩) hg).trans K1.out
        have hsz := HB.out.size
        rcases hc with ⟨rfl, HO⟩ | ⟨rfl, HO⟩ | ⟨rfl, HO⟩
        · go_wp2_with (at_builtin; go_loud (
             refine wpList_rows elS rfl _ _ rfl rfl rfl HO.out (strs_src (StrsAt.below H1.out HB.out hB1)) (by unfold maxLen; omega) (by omega) HB.out.size ?_
             intro v6 w6 hown hg6 _
             have HO6 := Lib.hid (show w6.ownsRow w0.heap.size 9 1 v6 n1 (xs.map Value.string) by rw [Nat.zero_add, List.nil_append] at hown; exact hown)
             have HB6 := Lib.hid (HB.out.grown hg6 HB.out.size (fun g e => (HO.out.lt g e).1))
             clear hown hg6))
          go_roundw
          case rel => exact ⟨_, rfl, HB6, .inr (.inl ⟨by go_num, HO6⟩)⟩
          case measure => simp [intOf]
        · go_wp2_with (at_builtin; go_loud (
             refine wpList_rows elS rfl _ _ rfl rfl rfl HO.out (strs_src (StrsAt.below H2.out HB.out hB2)) (by unfold maxLen; omega) (by omega) HB.out.size ?_
             intro v6 w6 hown hg6 _
             have HO6 := Lib.hid (show w6.ownsRow w0.heap.size 9 1 v6 N ((xs ++ ys).map Value.string) by rw [HN.out, List.map_append]; exact hown)
             have HB6 := Lib.hid (HB.out.grown hg6 HB.out.size (fun g e => (HO.out.lt g e).1))
             clear hown hg6))
          go_roundw
          case rel => exact ⟨_, rfl, HB6, .inr (.inr ⟨by go_num, HO6⟩)⟩
          case measure => simp [intOf]
        · obtain ⟨A6, k6, rfl, hk6⟩ := own_slice HO.out
          have hnl : N = (xs ++ ys).length := by rw [List.length_append, HLX.out, HLY.out]; exact HN.out
          have HP := Lib.hid (show OwS (xs ++ ys) w0 (.returned (.slice A6 N k6)) wr by
            have ho := HO.out
            rw [hnl] at ho ⊢
            exact ⟨A6, k6, rfl, ho, HB.out⟩)
          go_wp2_with fail
          go_ret
          have hp := HP.out
          rw [HW0.out] at hp
          exact hp
theorem kW_snoc {all words : List ByteArray} {k : Nat} {x : ByteArray} (hx : all[k]? = some x) : idx (k + 1) (fun i => decide (all.getD i emT ∈ words)) = idx k (fun i => decide (all.getD i emT ∈ words)) ++ (if x ∈ words then [(k : Int)] else []) := by
  have e : all.getD k emT = x := getD_some _ hx
  unfold idx
  rw [List.range_succ, List.filter_append, List.map_append]
  congr 1
  by_cases h : x ∈ words <;> simp [hx, h]
theorem idx_le (k : Nat) (p : Nat → Bool) : (idx k p).length ≤ k := by
  unfold idx
  rw [List.length_map]
  exact Nat.le_trans (List.length_filter_le _ _) (by simp)
/-- A row of ints of the call's own. -/
def OwI (l : List Int) (w : World) (e : Ending) (w' : World) : Prop :=
  ∃ A c, e = .returned (.slice A l.length c) ∧ w'.ownsRow w.heap.size 3 1 (.slice A l.length c) l.length (l.map (Value.int .i64)) ∧ Below w.heap.size w w'
set_option maxHeartbeats 2000000 in
set_option maxRecDepth 100000 in
theorem places_any {A O : Option Addr} {n cp on oc B B1 : Nat} {zs ws : List ByteArray} {w : World} (hz : StrsAt w B A n zs) (ho : StrsAt w B1 O on ws) (hB : B ≤ w.heap.size) (hB1 : B1 ≤ w.heap.size) (hl : n ≤ 1000000) :
    Calls Tryd.prog 20 #[.slice A n cp, .slice O on oc] w (OwI (kW zs ws) w) := by
  have HZ := Lib.hid hz
  have HW := Lib.hid ho
  clear hz ho
  go_enter Tryd.func20, Tryd.ntmps20
  go_wp2_with fail
  go_loopw [10, 5] (fun s10 s5 wr => ∃ (k m : Nat) (v : Value), v = s5 ∧ k ≤ n ∧ m ≤ k ∧ s10 = .int .i64 k ∧ Hid (m = (idx k (fun i => decide (zs.getD i emT ∈ ws))).length) ∧ Hid (Below w.heap.size w wr) ∧ Hid (wr.ownsRow w.heap.size 3 1 v m ((idx k (fun i => decide (zs.getD i emT ∈ ws))).map (Value.int .i64)))) (fun s10 _ _ => n - (intOf s10).toNat)
  case atStart => exact ⟨0, 0, _, rfl, Nat.zero_le _, Nat.le_refl _, rfl, by simp [idx, Hid], Below.refl _ _, World.ownsRow_nil _ _ _ _⟩
  case round =>
    obtain ⟨k, m, v, rfl, hk, hm, rfl, HM, HB, HO⟩ := hrel
    have hsz := HB.out.size
    by_cases hlt : k < n
    · obtain ⟨ad, x, rfl, e1, c1⟩ := StrsAt.at_ HZ.out HB.out hB hlt
      have KC := Lib.hid (contains_any (cp := oc) x (StrsAt.below HW.out HB.out hB1))
      have hsn := kW_snoc (words := ws) e1
      by_cases hin : x ∈ ws
      · have kc := KC.out
        rw [decide_eq_true hin] at kc
        rw [if_pos hin] at hsn
        have KC1 := Lib.hid kc
        have HSN := Lib.hid hsn
        clear kc hsn KC hin e1
        have HS := Lib.hid (src_new wr #[.int .i64 (k : Int)] 3 (m := 1) (sz := 1) rfl rfl (fun u hu => by simp at hu; subst hu; rfl))
        have HO5 := Lib.hid (HO.out.alloc (.cells #[.int .i64 (k : Int)] 3))
        have HSZ := Lib.hid (show w.heap.size ≤ (wr.alloc (.cells #[.int .i64 (k : Int)] 3)).heap.size by simp; omega)
        go_wp2_with (first
          | (go_at_call 45; refine KC1.out.mono ?_; rintro e w' ⟨rfl, rfl⟩)
          | (at_builtin; go_loud (
             refine wpList_rows elI rfl _ _ rfl rfl rfl HO5.out HS.out (by unfold maxLen; omega) (by omega) HSZ.out ?_
             intro v6 w6 hown hg6 _
             have HO6 := Lib.hid (show w6.ownsRow w.heap.size 3 1 v6 (m + 1) ((idx (k + 1) (fun i => decide (zs.getD i emT ∈ ws))).map (Value.int .i64)) by rw [HSN.out, List.map_append]; exact hown)
             have HB6 := Lib.hid ((HB.out.alloc hsz (.cells #[.int .i64 (k : Int)] 3)).grown hg6 (by simp; omega) (fun g e => (HO.out.lt g e).1))
             clear hown hg6)))
        go_roundw
        case rel => exact ⟨k + 1, m + 1, _, rfl, by omega, by omega, by go_num, by rw [HSN.out, List.length_append, ← HM.out]; rfl, HB6, HO6⟩
        case measure => simp [intOf]; omega
      · have kc := KC.out
        rw [decide_eq_false hin] at kc
        rw [if_neg hin, List.append_nil] at hsn
        have KC1 := Lib.hid kc
        have HSN := Lib.hid hsn
        clear kc hsn KC hin e1
        go_wp2_with (go_at_call 45; refine KC1.out.mono ?_; rintro e w' ⟨rfl, rfl⟩)
        go_roundw
        case rel => exact ⟨k + 1, m, _, rfl, by omega, by omega, by go_num, by rw [HSN.out]; exact HM.out, HB, by rw [HSN.out]; exact HO.out⟩
        case measure => simp [intOf]; omega
    · obtain rfl : n = k := by omega
      have hln := HZ.out.len
      have ho := HO.out
      have hm := HM.out
      subst hm
      obtain ⟨A6, k6, rfl, hk6⟩ := own_slice ho
      have HP := Lib.hid (show OwI (kW zs ws) w (.returned (.slice A6 (idx n (fun i => decide (zs.getD i emT ∈ ws))).length k6)) wr by unfold kW; rw [hln]; exact ⟨A6, k6, rfl, ho, HB.out⟩)
      clear ho hln
      go_wp2_with fail
      go_ret
      exact HP.out
/-- A row for each word, and what they are in memory. -/
def rawW (x : ByteArray) : RRaw := ⟨wRow x, none, 0⟩
/-- Rows of words, one behind the other, in a row of the call's own. -/
def OwR (l : List ByteArray) (w : World) (e : Ending) (w' : World) : Prop :=
  ∃ A c, e = .returned (.slice A l.length c) ∧ w'.ownsRow w.heap.size 51 11 (.slice A l.length c) l.length (rc (l.map rawW)) ∧ Below w.heap.size w w'
set_option maxHeartbeats 2000000 in
set_option maxRecDepth 100000 in
theorem wordRows_any {A : Option Addr} {n cp B : Nat} {zs : List ByteArray} {w : World} (hz : StrsAt w B A n zs) (hB : B ≤ w.heap.size) (hl : n ≤ 1000000) :
    Calls Tryd.prog 22 #[.slice A n cp] w (OwR zs w) := by
  have HZ := Lib.hid hz
  clear hz
  obtain ⟨i0, hi, hz0, hz1, hz2⟩ := info_parts elR.info
  obtain ⟨w1, hmk, ho1, hg1⟩ := run_make_own (P := Tryd.prog) (w := w) w.heap.size 32 51 i0 _ 11 Tryd.underlying32 hi hz0 hz1 .i64 .i64 (n + 1) (by rw [hz2]; omega) (by unfold maxLen; omega) (Nat.le_refl _)
  rw [show ((n + 1 : Nat) : Int) = (n : Int) + 1 by push_cast; rfl] at hmk
  have HB1 := Lib.hid (show Below w.heap.size w w1 from ⟨hg1.os, hg1.tape, hg1.output, hg1.size, fun k hk => hg1.block k hk (by simp)⟩)
  have HO1 := Lib.hid ho1
  clear hi hz0 hz1 hz2 ho1 hg1
  go_enter Tryd.func22, Tryd.ntmps22
  go_upto_region 2 with fail
  clear hmk
  go_wp2_with fail
  go_loopw [12, 3] (fun s12 s3 wr => ∃ (k : Nat) (v : Value), v = s3 ∧ k ≤ n ∧ s12 = .int .i64 k ∧ Hid (Below w.heap.size w wr) ∧ Hid (wr.ownsRow w.heap.size 51 11 v k (rc ((zs.take k).map rawW)))) (fun s12 _ _ => n - (intOf s12).toNat)
  case atStart => exact ⟨0, _, rfl, Nat.zero_le _, rfl, HB1, by rw [List.take_zero]; exact HO1.out⟩
  case round =>
    clear HB1 HO1
    obtain ⟨k, v, rfl, hk, rfl, HB, HO⟩ := hrel
    have hsz := HB.out.size
    by_cases hlt : k < n
    · obtain ⟨ad, x, rfl, e1, c1⟩ := StrsAt.at_ HZ.out HB.out hB hlt
      have hs := src_row wr (rawW x)
      simp only [cell11, rawW, wRow, noM, List.length_nil] at hs
      have HS := Lib.hid hs
      have HO5 := Lib.hid (HO.out.alloc (.cells #[.int .i64 4, .int .i64 0, .int .i64 0, .int .i64 0, .int .i64 0, .int .i64 0, .string ⟨#[]⟩, .int .i64 0, .slice none 0 0, .string ⟨#[]⟩, .string x] 51))
      have HSZ := Lib.hid (show w.heap.size ≤ (wr.alloc (.cells #[.int .i64 4, .int .i64 0, .int .i64 0, .int .i64 0, .int .i64 0, .int .i64 0, .string ⟨#[]⟩, .int .i64 0, .slice none 0 0, .string ⟨#[]⟩, .string x] 51)).heap.size by simp; omega)
      have hsn : (zs.take (k + 1)).map rawW = (zs.take k).map rawW ++ [rawW x] := by
        obtain ⟨hl2, e2⟩ := List.getElem?_eq_some_iff.1 e1
        rw [List.take_succ_eq_append_getElem hl2, List.map_append, e2]; rfl
      have HSN := Lib.hid hsn
      clear hs e1 hsn
      go_wp2_with (at_builtin; go_loud (
             refine wpList_rows elR rfl _ _ rfl rfl rfl HO5.out HS.out (by unfold maxLen; omega) (by omega) HSZ.out ?_
             intro v6 w6 hown hg6 _
             have HO6 := Lib.hid (show w6.ownsRow w.heap.size 51 11 v6 (k + 1) (rc ((zs.take (k + 1)).map rawW)) by rw [HSN.out, rc_snoc]; exact hown)
             have HB6 := Lib.hid ((HB.out.alloc hsz (.cells #[.int .i64 4, .int .i64 0, .int .i64 0, .int .i64 0, .int .i64 0, .int .i64 0, .string ⟨#[]⟩, .int .i64 0, .slice none 0 0, .string ⟨#[]⟩, .string x] 51)).grown hg6 (by simp; omega) (fun g e => (HO.out.lt g e).1))
             clear hown hg6))
      go_roundw
      case rel => exact ⟨k + 1, _, rfl, by omega, by go_num, HB6, HO6⟩
      case measure => simp [intOf]; omega
    · obtain rfl : n = k := by omega
      have ho := HO.out
      rw [List.take_of_length_le (by rw [HZ.out.len]; omega)] at ho
      obtain ⟨A6, k6, rfl, hk6⟩ := own_slice ho
      have HP := Lib.hid (show OwR zs w (.returned (.slice A6 n k6)) wr by
        have hln := HZ.out.len
        rw [← hln] at ho ⊢
        exact ⟨A6, k6, rfl, ho, HB.out⟩)
      clear ho
      go_wp2_with fail
      go_ret
      exact HP.out
end Go.Proofs.YtnicijeeocknaaaDoor.RwW14
