/-
  Words that may be given with a message; those that are not among others.
-/
import Derived.Test.YtdgcihgohkgecaaDoorJ2
import Derived.Test.YtdgcihgohkgecaaDoorBxAtom
import Derived.Test.YtdgcihgohkgecaaDoorBxV
import Derived.Test.YtdgcihgohkgecaaDoorRwRo
set_option linter.unusedVariables false
set_option linter.unusedSimpArgs false
namespace Go.Proofs.YtdgcihgohkgecaaDoor.RwW13
open Go.RowKit Go.Proofs.YtdgcihgohkgecaaDoor.BxD Go.Proofs.YtdgcihgohkgecaaDoor.BxKit Go.Proofs.YtdgcihgohkgecaaDoor.BxA Go.Proofs.YtdgcihgohkgecaaDoor.BxR Go.Proofs.YtdgcihgohkgecaaDoor.BxC Go.Proofs.YtdgcihgohkgecaaDoor.BxV Go.Proofs.YtdgcihgohkgecaaDoor.RwD Go.Proofs.YtdgcihgohkgecaaDoor.RwM

section
open Go.Proofs.YtdgcihgohkgecaaDoor.FlA Go.Proofs.YtdgcihgohkgecaaDoor.FlB Go.Proofs.YtdgcihgohkgecaaDoor.FlC Go.Proofs.YtdgcihgohkgecaaDoor.FlK
theorem atom_bit0 {s : ByteArray} (h : FlB.atB s = true) : bitOf s = 0 := by
  have hno : ∀ k, k < 5 → alB (nameAt k) s = false := by
    intro k hk
    cases hq : alB (nameAt k) s with
    | false => rfl
    | true =>
      exfalso
      have hm : (nameAt k).data.toList.map sm = s.data.toList.map sm := by
        unfold alB at hq
        simpa using hq
      have h0 : ∀ k, k < 5 → ∃ r, (nameAt k).data.toList.map sm = 92 :: r := five ⟨_, rfl⟩ ⟨_, rfl⟩ ⟨_, rfl⟩ ⟨_, rfl⟩ ⟨_, rfl⟩
      obtain ⟨r, hr⟩ := h0 k hk
      rw [hr] at hm
      unfold FlB.atB at h
      simp only [Bool.and_eq_true] at h
      have hall := h.2
      cases hl : s.data.toList with
      | nil => rw [hl] at hm; simp at hm
      | cons c t =>
        rw [hl, List.map_cons] at hm
        rw [hl, List.all_cons, Bool.and_eq_true] at hall
        have hc : sm c = 92 := by injection hm with h1 _; exact h1.symm
        have hc2 : c.toNat = 92 := by
          unfold sm at hc
          split at hc <;> omega
        have : c = 92 := by apply UInt8.toNat_inj.1; rw [hc2]; rfl
        rw [this] at hall
        exact absurd hall.1 (by decide)
  exact bitOf_none hno
end
theorem atB_eq (s : ByteArray) : FlB.atB s = BxD.atB s := rfl
theorem atom_bit {s : ByteArray} (h : BxD.atB s = true) : FlC.bitOf s = 0 := atom_bit0 h
/-- As many words as names: each is a word, none is there twice. -/
theorem wd_full {zs : List ByteArray} : ∀ k, k ≤ zs.length → (FlM.wd zs k).length = k → FlM.wd zs k = zs.take k ∧ (∀ z ∈ zs.take k, FlC.bitOf z = 0) ∧ (zs.take k).Nodup
  | 0, _, _ => by simp [FlM.wd]
  | k + 1, hk, hl => by
    have hx := List.getElem?_eq_getElem (l := zs) (i := k) (by omega)
    have hs := FlM.wd_succ hx
    have hle := FlM.wd_le zs k
    rw [hs] at hl
    unfold FlM.addW at hl hs
    by_cases hb : FlC.bitOf zs[k] ≠ 0
    · rw [if_pos hb] at hl; omega
    · rw [if_neg hb] at hl hs
      have hb0 : FlC.bitOf zs[k] = 0 := by omega
      by_cases hm : zs[k] ∈ FlM.wd zs k
      · rw [if_pos hm] at hl; omega
      · rw [if_neg hm] at hl hs
        rw [List.length_append, List.length_singleton] at hl
        obtain ⟨h1, h2, h3⟩ := wd_full (zs := zs) k (by omega) (by omega)
        have ht := List.take_succ_eq_append_getElem (l := zs) (i := k) (by omega)
        refine ⟨by rw [hs, h1, ht], fun z hz => ?_, ?_⟩
        · rw [ht] at hz
          rcases List.mem_append.1 hz with hz | hz
          · exact h2 z hz
          · obtain rfl := List.mem_singleton.1 hz
            exact hb0
        · rw [ht, List.nodup_append]
          exact ⟨h3, by simp, fun a ha c hc e => by obtain rfl := List.mem_singleton.1 hc; subst e; exact hm (by rw [h1]; exact ha)⟩
theorem wd_words {zs : List ByteArray} (h1 : ∀ z ∈ zs, BxD.atB z = true) (h2 : zs.Nodup) : ∀ k, k ≤ zs.length → FlM.wd zs k = zs.take k
  | 0, _ => by simp [FlM.wd]
  | k + 1, hk => by
    have hx := List.getElem?_eq_getElem (l := zs) (i := k) (by omega)
    have ih := wd_words h1 h2 k (by omega)
    have ht := List.take_succ_eq_append_getElem (l := zs) (i := k) (by omega)
    rw [FlM.wd_new hx (atom_bit (h1 _ (List.mem_of_getElem? hx))) ?_, ih, ht]
    rw [ih, List.mem_take_iff_getElem]
    intro ⟨j, hj, e⟩
    exact List.pairwise_iff_getElem.1 h2 j k (by omega) (by omega) (by omega) e
theorem words_iff {zs : List ByteArray} : ((∀ z ∈ zs, FlD.good z) ∧ (FlM.wd zs zs.length).length = zs.length) ↔ wordsB zs = true := by
  rw [wordsB_iff]
  constructor
  · intro ⟨h1, h2⟩
    obtain ⟨_, h3, h4⟩ := wd_full zs.length (Nat.le_refl _) h2
    rw [List.take_length] at h3 h4
    exact ⟨fun z hz => (h1 z hz).elim (fun e => absurd (h3 z hz) e) id, h4⟩
  · intro ⟨h1, h2⟩
    exact ⟨fun z hz => .inr (h1 z hz), by rw [wd_words h1 h2 _ (Nat.le_refl _), List.take_length]⟩
set_option maxHeartbeats 2000000 in
set_option maxRecDepth 100000 in
theorem mayWords_any {A : Option Addr} {n cp B : Nat} {zs : List ByteArray} {w : World} (hn : FlK.Names w) (hz : StrsAt w B A n zs) (hB : B ≤ w.heap.size) (hl : n ≤ 8796093022208) :
    Calls Tryd.prog 25 #[.slice A n cp] w fun e w' => e = .returned (.bool (wordsB zs)) ∧ Below w.heap.size w w' := by
  have hsz : ∀ z ∈ zs, z.size ≤ maxLen := fun z h => by have := strs_size hz z h; unfold maxLen; omega
  have harg : FlArg.StrsAt w A n zs := ⟨hz.len, fun h0 => by
    obtain ⟨ad, e, hlt, hc⟩ := hz.2.2 h0
    exact ⟨ad, e, by omega, fun j z hj => by have := (hc j z hj).1; rwa [Nat.mul_one] at this⟩⟩
  have K := Lib.hid (FlD.split_any A n cp zs w hn harg hsz hl)
  have hln := hz.len
  have HLN := Lib.hid hln
  clear hn hz hsz harg hln
  obtain ⟨b, hb⟩ : ∃ b, b = wordsB zs := ⟨_, rfl⟩
  have HBB := Lib.hid hb
  rw [← hb]
  clear hb
  go_enter Tryd.func25, Tryd.ntmps25
  go_upto_region 1 with fail
  go_upto_region 2 with (go_at_call 64; go_loud (
     refine K.out.mono ?_
     rintro e w1 hsq
     rcases hsq with ⟨hg, v, rfl, ho, hb1⟩ | ⟨hbad, rfl, hb1⟩))
  · obtain ⟨A1, k1, rfl, _⟩ := own_slice ho
    have HG := Lib.hid hg
    have HB1 := Lib.hid hb1
    obtain ⟨m, hm⟩ : ∃ m, m = (FlM.wd zs zs.length).length := ⟨_, rfl⟩
    rw [← hm]
    have HM := Lib.hid hm
    clear hg hb1 ho hm
    by_cases hq : m = n
    · have hw : b = true := by
        rw [HBB.out, ← words_iff]
        exact ⟨HG.out, by rw [← HM.out, hq, HLN.out]⟩
      have hqi : ((m : Int) == (n : Int)) = true := by rw [hq]; simp
      clear hq
      have HWW := Lib.hid hw
      clear hw
      go_wp2_with fail
      go_ret
      exact ⟨ret_bool HWW.out.symm, HB1.out⟩
    · have hw : b = false := by
        cases hbv : b with
        | false => rfl
        | true =>
          have := words_iff.2 (HBB.out.symm.trans hbv)
          exact absurd (by rw [HM.out, this.2, HLN.out]) hq
      have hqi : ((m : Int) == (n : Int)) = false := by rw [beq_eq_false_iff_ne]; omega
      clear hq
      have HWW := Lib.hid hw
      clear hw
      go_wp2_with fail
      go_ret
      exact ⟨ret_bool HWW.out.symm, HB1.out⟩
  · have hw : b = false := by
      cases hbv : b with
      | false => rfl
      | true =>
        have := words_iff.2 (HBB.out.symm.trans hbv)
        obtain ⟨z, hz, hng⟩ := hbad
        exact absurd (this.1 z hz) hng
    have HB1 := Lib.hid hb1
    clear hb1 hbad
    have HWW := Lib.hid hw
    clear hw
    go_wp2_with fail
    go_ret
    exact ⟨ret_bool HWW.out.symm, HB1.out⟩
/-- A row of texts of the call's own. -/
def OwS (l : List ByteArray) (w : World) (e : Ending) (w' : World) : Prop :=
  ∃ A c, e = .returned (.slice A l.length c) ∧ w'.ownsRow w.heap.size 9 1 (.slice A l.length c) l.length (l.map Value.string) ∧ Below w.heap.size w w'
theorem newW_snoc {ws zs : List ByteArray} {k : Nat} {x : ByteArray} (hx : zs[k]? = some x) : newW ws (zs.take (k + 1)) = newW ws (zs.take k) ++ (if x ∈ ws then [] else [x]) := by
  obtain ⟨hl, rfl⟩ := List.getElem?_eq_some_iff.1 hx
  unfold newW
  rw [List.take_succ_eq_append_getElem hl, List.filter_append]
  congr 1
  by_cases h : zs[k] ∈ ws <;> simp [h]
set_option maxHeartbeats 2000000 in
set_option maxRecDepth 100000 in
theorem without_any {A O : Option Addr} {n cp on oc B B1 : Nat} {zs ws : List ByteArray} {w : World} (hz : StrsAt w B A n zs) (ho : StrsAt w B1 O on ws) (hB : B ≤ w.heap.size) (hB1 : B1 ≤ w.heap.size) (hl : n ≤ 1000000) :
    Calls Tryd.prog 26 #[.slice A n cp, .slice O on oc] w (OwS (newW ws zs) w) := by
  have HZ := Lib.hid hz
  have HW := Lib.hid ho
  clear hz ho
  go_enter Tryd.func26, Tryd.ntmps26
  go_wp2_with fail
  go_loopw [10, 5] (fun s10 s5 wr => ∃ (k m : Nat) (v : Value), v = s5 ∧ k ≤ n ∧ m ≤ k ∧ s10 = .int .i64 k ∧ Hid (m = (newW ws (zs.take k)).length) ∧ Hid (Below w.heap.size w wr) ∧ Hid (wr.ownsRow w.heap.size 9 1 v m ((newW ws (zs.take k)).map Value.string))) (fun s10 _ _ => n - (intOf s10).toNat)
  case atStart => exact ⟨0, 0, _, rfl, Nat.zero_le _, Nat.le_refl _, rfl, by simp [newW, Hid], Below.refl _ _, by rw [List.take_zero]; exact World.ownsRow_nil _ _ _ _⟩
  case round =>
    obtain ⟨k, m, v, rfl, hk, hm, rfl, HM, HB, HO⟩ := hrel
    have hsz := HB.out.size
    by_cases hlt : k < n
    · obtain ⟨ad, x, rfl, e1, c1⟩ := StrsAt.at_ HZ.out HB.out hB hlt
      have KC := Lib.hid (contains_any (cp := oc) x (StrsAt.below HW.out HB.out hB1))
      have hsn := newW_snoc (ws := ws) e1
      by_cases hin : x ∈ ws
      · have kc := KC.out
        rw [decide_eq_true hin] at kc
        rw [if_pos hin, List.append_nil] at hsn
        have KC1 := Lib.hid kc
        have HSN := Lib.hid hsn
        clear kc hsn KC hin e1
        go_wp2_with (go_at_call 65; refine KC1.out.mono ?_; rintro e w' ⟨rfl, rfl⟩)
        go_roundw
        case rel => exact ⟨k + 1, m, _, rfl, by omega, by omega, by go_num, by rw [HSN.out]; exact HM.out, HB, by rw [HSN.out]; exact HO.out⟩
        case measure => simp [intOf]; omega
      · have kc := KC.out
        rw [decide_eq_false hin] at kc
        rw [if_neg hin] at hsn
        have KC1 := Lib.hid kc
        have HSN := Lib.hid hsn
        clear kc hsn KC hin e1
        have HS := Lib.hid (src_new wr #[.string x] 9 (m := 1) (sz := 1) rfl rfl (fun u hu => by simp at hu; subst hu; rfl))
        have HO5 := Lib.hid (HO.out.alloc (.cells #[.string x] 9))
        have HSZ := Lib.hid (show w.heap.size ≤ (wr.alloc (.cells #[.string x] 9)).heap.size by simp; omega)
        go_wp2_with (first
          | (go_at_call 65; refine KC1.out.mono ?_; rintro e w' ⟨rfl, rfl⟩)
          | (at_builtin; go_loud (
             refine wpList_rows elS rfl _ _ rfl rfl rfl HO5.out HS.out (by unfold maxLen; omega) (by omega) HSZ.out ?_
             intro v6 w6 hown hg6 _
             have HO6 := Lib.hid (show w6.ownsRow w.heap.size 9 1 v6 (m + 1) ((newW ws (zs.take (k + 1))).map Value.string) by rw [HSN.out, List.map_append]; exact hown)
             have HB6 := Lib.hid ((HB.out.alloc hsz (.cells #[.string x] 9)).grown hg6 (by simp; omega) (fun g e => (HO.out.lt g e).1))
             clear hown hg6)))
        go_roundw
        case rel => exact ⟨k + 1, m + 1, _, rfl, by omega, by omega, by go_num, by rw [HSN.out, List.length_append, ← HM.out]; rfl, HB6, HO6⟩
        case measure => simp [intOf]; omega
    · obtain rfl : n = k := by omega
      have ht : zs.take n = zs := List.take_of_length_le (by rw [HZ.out.len]; omega)
      have ho := HO.out
      have hm := HM.out
      rw [ht] at ho hm
      subst hm
      obtain ⟨A6, k6, rfl, hk6⟩ := own_slice ho
      have HP := Lib.hid (show OwS (newW ws zs) w (.returned (.slice A6 (newW ws zs).length k6)) wr from ⟨A6, k6, rfl, ho, HB.out⟩)
      clear ho ht
      go_wp2_with fail
      go_ret
      exact HP.out
end Go.Proofs.YtdgcihgohkgecaaDoor.RwW13
