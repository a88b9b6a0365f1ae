/-
  BxF + BxV
-/
import Derived.Test.YtnicijeeocknaaaDoorBxA
import Derived.Laws.ResultCell
import Derived.Test.YtnicijeeocknaaaDoorN4
import Derived.Laws.Rows
set_option linter.unusedVariables false
set_option linter.unusedSimpArgs false
namespace Go.Proofs.YtnicijeeocknaaaDoor.BxF
open Go.RowKit Go.Proofs.YtnicijeeocknaaaDoor.BxD Go.Proofs.YtnicijeeocknaaaDoor.BxKit Go.Proofs.YtnicijeeocknaaaDoor.BxA

theorem two_below (w : World) (o1 o2 : Obj) : Below w.heap.size w ((w.alloc o1).alloc o2) := ((Below.refl _ _).alloc (Nat.le_refl _) _).alloc (by simp) _
theorem find_next {ms : List Msg} {k : Nat} {m : Msg} {u : Int} (h : ∀ i x, i < k → ms[i]? = some x → x.uid ≠ u) (hm : ms[k]? = some m) (hne : m.uid ≠ u) : ∀ i x, i < k + 1 → ms[i]? = some x → x.uid ≠ u := by
  intro i x hi hx
  by_cases he : i = k
  · subst he
    rw [hm] at hx
    injection hx with hx
    rw [← hx]; exact hne
  · exact h i x (by omega) hx
theorem find_end {ms : List Msg} {k : Nat} {u : Int} (h : ∀ i x, i < k → ms[i]? = some x → x.uid ≠ u) (hk : ms.length ≤ k) : findI ms u = -1 :=
  findI_none fun x hx => by
    obtain ⟨i, hi, e⟩ := List.mem_iff_getElem.1 hx
    exact h i x (by omega) (by rw [← e]; exact List.getElem?_eq_getElem hi)

set_option maxHeartbeats 1000000 in
theorem refFind_any {bid : ByteArray} {bv bn bh uid : Int} {WA MA : Option Addr} {wn wc mn mc B0 : Nat} {ms : List Msg} {w : World} (hm : MsgsAt w B0 MA mn ms) (hB : B0 ≤ w.heap.size) :
    Calls Tryd.prog 33 #[.agg #[.string bid, .int .i64 bv, .int .i64 bn, .int .i64 bh, .slice WA wn wc, .slice MA mn mc], .int .i64 uid] w fun e w' => e = .returned (.int .i64 (findI ms uid)) ∧ Below w.heap.size w w' := by
  have HM := Lib.hid hm
  have hn := hm.max
  clear hm
  go_enter Tryd.func33, Tryd.ntmps33
  go_wp2_with fail
  have HS := Lib.hid ((Below.refl w.heap.size w).alloc (Nat.le_refl _) (.cells #[.string bid, .int .i64 bv, .int .i64 bn, .int .i64 bh, .slice WA wn wc, .slice MA mn mc] 25))
  go_loopw [10] (fun s10 wr => ∃ k : Nat, k ≤ mn ∧ s10 = .int .i64 k ∧ Hid (∀ i x, i < k → ms[i]? = some x → x.uid ≠ uid) ∧ Hid (Below w.heap.size w wr)) (fun s10 _ => mn - (intOf s10).toNat)
  case atStart => exact ⟨0, Nat.zero_le _, rfl, fun i _ hi => absurd hi (Nat.not_lt_zero _), HS⟩
  case round =>
    obtain ⟨k, hk, rfl, HT, HA⟩ := hrel
    by_cases hlt : k < mn
    · obtain ⟨ad, u, md, d, id, fl, ks, tx, K, kn, kc, rfl, hab, e1, c0, c1, c2, c3, c4, c5, c6, _, _, _, _⟩ := MsgsAt.sp HM.out HA.out hB hlt
      have HC := Lib.hid (fun o => HA.out.alloc HA.out.size o)
      by_cases hq : u = uid
      · subst hq
        have HF := Lib.hid (findI_hit HT.out e1 rfl)
        clear e1
        go_wp2_with fail
        go_ret
        exact ⟨ret_int HF.out.symm, HC.out _⟩
      · have HT2 := Lib.hid (find_next HT.out e1 hq)
        have hb : (u == uid) = false := by simpa using hq
        clear e1 hq
        go_wp2_with fail
        go_roundw
        case rel => exact ⟨k + 1, by omega, by go_num, HT2, HC.out _⟩
        case measure => simp [intOf]; omega
    · obtain rfl : mn = k := by omega
      have HF := Lib.hid (find_end HT.out (by have := HM.out.len; omega))
      go_wp2_with fail
      go_ret
      exact ⟨ret_int HF.out.symm, HA.out⟩

set_option maxHeartbeats 1000000 in
theorem isUid_any {u md d fl uid : Int} {id tx : ByteArray} {K : Option Addr} {kn kc b : Nat} {w : World} (hc : w.cell? { block := b, off := 0 } = some (.int .i64 uid)) (hb : b < w.heap.size) :
    Calls Tryd.prog 53 #[.agg #[.int .i64 u, .int .i64 md, .int .i64 d, .string id, .int .i64 fl, .slice K kn kc, .string tx], .pointer (some { block := b, off := 0 })] w fun e w' => e = .returned (.bool (u == uid)) ∧ Below w.heap.size w w' := by
  have hz : (w.alloc (.cells #[.int .i64 u, .int .i64 md, .int .i64 d, .string id, .int .i64 fl, .slice K kn kc, .string tx] 28)).cell? { block := b, off := 0 } = some (.int .i64 uid) := by
    rw [((Below.refl w.heap.size w).alloc (Nat.le_refl _) _).cell (p := ⟨b, 0, none⟩) hb]; exact hc
  clear hc
  go_enter Tryd.func53, Tryd.ntmps53
  go_wp2_with fail
  go_ret
  exact ⟨rfl, (Below.refl _ _).alloc (Nat.le_refl _) _⟩
set_option maxHeartbeats 1000000 in
theorem indexMsg_any {uid : Int} {A : Option Addr} {n cp b B0 : Nat} {ms : List Msg} {w : World} (hm : MsgsAt w B0 A n ms) (hB : B0 ≤ w.heap.size) (hc : w.cell? { block := b, off := 0 } = some (.int .i64 uid)) (hb : b < w.heap.size) :
    Calls Tryd.prog 52 #[.slice A n cp, .func (.func 53) #[] #[.pointer (some { block := b, off := 0 })]] w fun e w' => e = .returned (.int .i64 (findI ms uid)) ∧ Below w.heap.size w w' := by
  have HM := Lib.hid hm
  have hn := hm.max
  have HB := Lib.hid hc
  clear hm hc
  go_enter Tryd.func52, Tryd.ntmps52
  go_wp2_with fail
  go_loopw [8] (fun s8 wr => ∃ k : Nat, k ≤ n ∧ s8 = .int .i64 k ∧ Hid (∀ i x, i < k → ms[i]? = some x → x.uid ≠ uid) ∧ Hid (Below w.heap.size w wr)) (fun s8 _ => n - (intOf s8).toNat)
  case atStart => exact ⟨0, Nat.zero_le _, rfl, fun i _ hi => absurd hi (Nat.not_lt_zero _), Below.refl _ _⟩
  case round =>
    obtain ⟨k, hk, rfl, HT, HA⟩ := hrel
    by_cases hlt : k < n
    · obtain ⟨ad, u, md, d, id, fl, ks, tx, K, kn, kc, rfl, hab, e1, c0, c1, c2, c3, c4, c5, c6, _, _, _, _⟩ := MsgsAt.sp HM.out HA.out hB hlt
      have g1 : (0 : Int) ≤ (k : Int) := by omega
      have g2 : (k : Int) < (n : Int) := by omega
      have C := isUid_any (u := u) (md := md) (d := d) (fl := fl) (id := id) (tx := tx) (K := K) (kn := kn) (kc := kc) (w := wr) ((HA.out.cell (p := ⟨b, 0, none⟩) hb).trans HB.out) (Nat.lt_of_lt_of_le hb HA.out.size)
      by_cases hq : u = uid
      · subst hq
        rw [beq_self_eq_true] at C
        have HF := Lib.hid (findI_hit HT.out e1 rfl)
        have K1 := Lib.hid C
        clear e1 C
        go_wp2_with (go_at_call 53; refine K1.out.mono ?_; rintro e w1 ⟨rfl, hb1⟩)
        go_ret
        exact ⟨ret_int HF.out.symm, HA.out.trans (hb1.mono HA.out.size)⟩
      · have HT2 := Lib.hid (find_next HT.out e1 hq)
        rw [show (u == uid) = false by simpa using hq] at C
        have K1 := Lib.hid C
        clear e1 hq C
        go_wp2_with (go_at_call 53; refine K1.out.mono ?_; rintro e w1 ⟨rfl, hb1⟩)
        have HD := Lib.hid (HA.out.trans (hb1.mono HA.out.size))
        go_roundw
        case rel => exact ⟨k + 1, by omega, by go_num, HT2, HD⟩
        case measure => simp [intOf]; omega
    · obtain rfl : n = k := by omega
      have HF := Lib.hid (find_end HT.out (by have := HM.out.len; omega))
      go_wp2_with fail
      go_ret
      exact ⟨ret_int HF.out.symm, HA.out⟩
set_option maxHeartbeats 1000000 in
theorem find_any {bid : ByteArray} {bv bn bh uid : Int} {WA MA : Option Addr} {wn wc mn mc B0 : Nat} {ms : List Msg} {w : World} (hm : MsgsAt w B0 MA mn ms) (hB : B0 ≤ w.heap.size) :
    Calls Tryd.prog 30 #[.agg #[.string bid, .int .i64 bv, .int .i64 bn, .int .i64 bh, .slice WA wn wc, .slice MA mn mc], .int .i64 uid] w fun e w' => e = .returned (.int .i64 (findI ms uid)) ∧ Below w.heap.size w w' := by
  have C := fun o : Obj => indexMsg_any (cp := mc) (uid := uid) (b := w.heap.size + 1) (w := (w.alloc o).alloc (.cells #[.int .i64 uid] 3)) (MsgsAt.below hm (two_below w o _) hB) (by simp; omega) (by simp) (by simp)
  have K := Lib.hid C
  clear C hm
  go_enter Tryd.func30, Tryd.ntmps30
  go_wp2_with (go_at_call 52; refine (K.out _).mono ?_; rintro e w1 ⟨rfl, hb1⟩)
  go_ret
  exact ⟨rfl, (two_below w _ _).trans (hb1.mono (by simp; omega))⟩

def EmPost (id : ByteArray) (v : Int) (w : World) (e : Ending) (w' : World) : Prop :=
  e = .returned (.agg #[.string id, .int .i64 v, .int .i64 1, .int .i64 1, .slice none 0 0, .slice none 0 0]) ∧ Below w.heap.size w w'
end Go.Proofs.YtnicijeeocknaaaDoor.BxF

namespace Go.Proofs.YtnicijeeocknaaaDoor.BxV
open Go.RowKit Go.Proofs.YtnicijeeocknaaaDoor.BxD Go.Proofs.YtnicijeeocknaaaDoor.BxKit Go.Proofs.YtnicijeeocknaaaDoor.BxA Go.Proofs.YtnicijeeocknaaaDoor.BxR

theorem two_below (w : World) (o1 o2 : Obj) : Below w.heap.size w ((w.alloc o1).alloc o2) := ((Below.refl _ _).alloc (Nat.le_refl _) _).alloc (by simp) _
/-- Behind the making of two blocks, which stay; a row of texts of the call's own. -/
structure WS (w : World) (o1 o2 : Obj) (wr : World) (n : Nat) (v : Value) (l : List ByteArray) : Prop where
  own : wr.ownsRow (w.heap.size + 2) 9 1 v n (l.map Value.string)
  bel : Below (w.heap.size + 2) ((w.alloc o1).alloc o2) wr
section
variable {w wr w2 : World} {o1 o2 : Obj} {n : Nat} {v : Value} {l : List ByteArray}
theorem WS.start (w : World) (o1 o2 : Obj) : WS w o1 o2 ((w.alloc o1).alloc o2) 0 (.slice none 0 0) [] := ⟨World.ownsRow_nil _ _ _ _, Below.refl _ _⟩
theorem WS.size (h : WS w o1 o2 wr n v l) : w.heap.size + 2 ≤ wr.heap.size := by have := h.bel.size; simpa using this
theorem WS.below (h : WS w o1 o2 wr n v l) : Below w.heap.size w wr := (two_below w o1 o2).trans (h.bel.mono (by omega))
theorem WS.alloc (h : WS w o1 o2 wr n v l) (o : Obj) : WS w o1 o2 (wr.alloc o) n v l := ⟨h.own.alloc o, h.bel.alloc h.size o⟩
theorem WS.app {m : Nat} {v' : Value} {l' : List ByteArray} (h : WS w o1 o2 wr n v l) (hown : w2.ownsRow (w.heap.size + 2) 9 1 v' m (l'.map Value.string)) (hg : wr.grownBy w2 v.ownBlock) : WS w o1 o2 w2 m v' l' :=
  ⟨hown, h.bel.grown hg h.size (fun g e => (h.own.lt g e).1)⟩
theorem WS.words {c0 c1 c2 c3 c4 c5 : Value} {t : TypeId} (h : WS w (.cells #[c0, c1, c2, c3, c4, c5] t) o2 wr n v l) : wr.cell? { block := w.heap.size, off := 4 } = some c4 := by
  rw [Below.cell h.bel (p := ⟨w.heap.size, _, none⟩) (by simp)]
  simp
end
theorem words_size {ws : List ByteArray} (h : ∀ x ∈ ws, x.size ≤ 140737488355328) (ks : List Int) : ∀ x ∈ wordsOf ws ks, x.size ≤ 140737488355328 := by
  intro x hx
  obtain ⟨k, _, hk⟩ := List.mem_flatMap.1 hx
  unfold word1 at hk
  split at hk
  · cases hw : ws[k.toNat]? with
    | none => rw [hw] at hk; cases hk
    | some y =>
      rw [hw] at hk
      obtain rfl : x = y := by simpa using hk
      exact h x (List.mem_of_getElem? hw)
  · cases hk
theorem strs_size {w : World} {B n : Nat} {A : Option Addr} {l : List ByteArray} (h : StrsAt w B A n l) : ∀ x ∈ l, x.size ≤ 140737488355328 := by
  intro x hx
  obtain ⟨j, hj⟩ := List.mem_iff_getElem?.1 hx
  have hl := (List.getElem?_eq_some_iff.1 hj).1
  obtain ⟨ad, y, _, _, hy, hc⟩ := h.get (j := j) (by have := h.len; omega)
  rw [hj] at hy
  injection hy with hy
  subst hy
  exact hc.2
def WdPost (l : List ByteArray) (w : World) (e : Ending) (w' : World) : Prop :=
  ∃ A n c, e = .returned (.slice A n c) ∧ n ≤ c ∧ StrsAt w' w'.heap.size A n l ∧ Below w.heap.size w w'
theorem WS.post {w wr : World} {o1 o2 : Obj} {n : Nat} {v : Value} {l : List ByteArray} (h : WS w o1 o2 wr n v l) (hn : n ≤ 60000) (hz : ∀ x ∈ l, x.size ≤ 140737488355328) : WdPost l w (.returned v) wr := by
  obtain ⟨A, c, rfl, hc⟩ := own_slice h.own
  exact ⟨A, n, c, rfl, hc, strsAt_own h.own (by omega) hz, h.below⟩

set_option maxHeartbeats 2000000 in
set_option maxRecDepth 100000 in
theorem words_any {bid id tx : ByteArray} {bv bn bh u md d fl : Int} {WA MA K : Option Addr} {wn wc mn mc kn kc B0 B1 : Nat} {ws : List ByteArray} {ks : List Int} {w : World} (hx : StrsAt w B0 WA wn ws) (hk : IntsAt w B1 K kn ks) (hB : B0 ≤ w.heap.size) (hB1 : B1 ≤ w.heap.size) (h6 : kn ≤ 60000) :
    Calls Tryd.prog 54 #[.agg #[.string bid, .int .i64 bv, .int .i64 bn, .int .i64 bh, .slice WA wn wc, .slice MA mn mc], .agg #[.int .i64 u, .int .i64 md, .int .i64 d, .string id, .int .i64 fl, .slice K kn kc, .string tx]] w (WdPost (wordsOf ws ks) w) := by
  have HX := Lib.hid hx
  have HK := Lib.hid hk
  have hwn := hx.max
  have HZ := Lib.hid (words_size (strs_size hx) ks)
  clear hx hk
  go_enter Tryd.func54, Tryd.ntmps54
  go_wp2_with fail
  have HS := Lib.hid (WS.start w (.cells #[.string bid, .int .i64 bv, .int .i64 bn, .int .i64 bh, .slice WA wn wc, .slice MA mn mc] 25) (.cells #[.int .i64 u, .int .i64 md, .int .i64 d, .string id, .int .i64 fl, .slice K kn kc, .string tx] 28))
  go_loopw [5, 11] (fun s5 s11 wr => ∃ (k m : Nat) (v : Value), v = s5 ∧ k ≤ kn ∧ m ≤ k ∧ s11 = .int .i64 k ∧ Hid (WS w (.cells #[.string bid, .int .i64 bv, .int .i64 bn, .int .i64 bh, .slice WA wn wc, .slice MA mn mc] 25) (.cells #[.int .i64 u, .int .i64 md, .int .i64 d, .string id, .int .i64 fl, .slice K kn kc, .string tx] 28) wr m v (wordsOf ws (ks.take k)))) (fun _ s11 _ => kn - (intOf s11).toNat)
  case atStart => exact ⟨0, 0, _, rfl, Nat.zero_le _, Nat.le_refl _, rfl, HS⟩
  case round =>
    clear HS
    obtain ⟨k, m, v, rfl, hk, hmk, rfl, HO⟩ := hrel
    by_cases hlt : k < kn
    · obtain ⟨ad, x, rfl, hx, hc⟩ := IntsAt.at_ HK.out HO.out.below hB1 hlt
      have hw4 := HO.out.words
      have hsn := wordsOf_snoc (ws := ws) hx
      clear hx
      by_cases h0 : x < 0
      · have HO2 := Lib.hid (show WS w _ _ wr m v (wordsOf ws (ks.take (k + 1))) by rw [hsn, word1_low h0, List.append_nil]; exact HO.out)
        clear hsn
        have hb : inB 0 x ((wn : Int) - 1) = false := inB_false (.inl h0)
        go_wp2_with ((go_at_call 41; refine (within_any _ _ _ _).mono ?_; rintro e w' ⟨rfl, rfl⟩))
        go_roundw
        case rel => exact ⟨k + 1, m, _, rfl, by omega, by omega, by go_num, HO2⟩
        case measure => simp [intOf]; omega
      by_cases h1 : x < (wn : Int)
      · obtain ⟨j, rfl⟩ := Int.eq_ofNat_of_zero_le (show 0 ≤ x by omega)
        have hjw : j < wn := by omega
        obtain ⟨ad2, y, rfl, hy, hcy⟩ := StrsAt.at_ HX.out HO.out.below hB hjw
        have hw1 := word1_in (ws := ws) (x := (j : Int)) (by omega) (by simpa using hy)
        rw [hw1] at hsn
        have HSN := Lib.hid hsn
        have hb : inB 0 (j : Int) ((wn : Int) - 1) = true := inB_true (by omega) (by omega)
        have g0 : (0 : Int) ≤ (j : Int) := by omega
        have HO1 := Lib.hid (HO.out.alloc (.cells #[.string y] 9))
        have HSR := Lib.hid (src_new wr #[.string y] 9 (m := 1) (sz := 1) rfl rfl (fun u hu => by simp at hu; subst hu; rfl))
        have hz : w.heap.size + 2 ≤ (wr.alloc (.cells #[.string y] 9)).heap.size := HO1.out.size
        clear hsn hw1 hy h0
        go_wp2_with (first | (go_at_call 41; refine (within_any _ _ _ _).mono ?_; rintro e w' ⟨rfl, rfl⟩) | (at_builtin; refine wpList_rows elS rfl _ _ rfl rfl rfl HO1.out.own HSR.out (by unfold maxLen; omega) (by omega) hz ?_; intro v' w3 hown3 hg3 _))
        have HO3 := Lib.hid (show WS w _ _ w3 (m + 1) v' (wordsOf ws (ks.take (k + 1))) from HO1.out.app (by rw [HSN.out, List.map_append]; exact hown3) hg3)
        clear hown3 hg3 HO1
        go_roundw
        case rel => exact ⟨k + 1, m + 1, _, rfl, by omega, by omega, by go_num, HO3⟩
        case measure => simp [intOf]; omega
      · have HO2 := Lib.hid (show WS w _ _ wr m v (wordsOf ws (ks.take (k + 1))) by rw [hsn, word1_high (by have := HX.out.len; omega), List.append_nil]; exact HO.out)
        have h0' : 0 ≤ x := by omega
        have h1' : (wn : Int) ≤ x := by omega
        clear hsn h0 h1
        have hb : inB 0 x ((wn : Int) - 1) = false := inB_false (.inr (by omega))
        go_wp2_with ((go_at_call 41; refine (within_any _ _ _ _).mono ?_; rintro e w' ⟨rfl, rfl⟩))
        go_roundw
        case rel => exact ⟨k + 1, m, _, rfl, by omega, by omega, by go_num, HO2⟩
        case measure => simp [intOf]; omega
    · obtain rfl : kn = k := by omega
      have HP := Lib.hid (show WdPost (wordsOf ws ks) w (.returned v) wr by
        have h := HO.out
        rw [take_len HK.out.len] at h
        exact h.post (by omega) HZ.out)
      go_wp2_with fail
      go_ret
      exact HP.out

end Go.Proofs.YtnicijeeocknaaaDoor.BxV
