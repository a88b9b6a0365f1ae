/-
  Find, Unseen and Empty, of the program and of the document.
-/
import Derived.Test.YtchlbbndfhibgaaGreatDoorBxA
import Derived.Laws.ResultCell
set_option linter.unusedVariables false
set_option linter.unusedSimpArgs false
namespace Go.Proofs.YtchlbbndfhibgaaGreatDoor.BxF
open Go.RowKit Go.Proofs.YtchlbbndfhibgaaGreatDoor.BxD Go.Proofs.YtchlbbndfhibgaaGreatDoor.BxKit Go.Proofs.YtchlbbndfhibgaaGreatDoor.BxA

theorem two_below (w : World) (o1 o2 : Obj) : Below w.heap.size w ((w.alloc o1).alloc o2) := ((Below.refl _ _).alloc (Nat.le_refl _) _).alloc (by simp) _
theorem find_next {ms : List Msg} {k : Nat} {m : Msg} {u : Int} (h : ∀ i x, i < k → ms[i]? = some x → x.uid ≠ u) (hm : ms[k]? = some m) (hne : m.uid ≠ u) : ∀ i x, i < k + 1 → ms[i]? = some x → x.uid ≠ u := by
  intro i x hi hx
  by_cases he : i = k
  · subst he
    rw [hm] at hx
    injection hx with hx
    rw [← hx]; exact hne
  · exact h i x (by omega) hx
theorem find_end {ms : List Msg} {k : Nat} {u : Int} (h : ∀ i x, i < k → ms[i]? = some x → x.uid ≠ u) (hk : ms.length ≤ k) : findI ms u = -1 :=
  findI_none fun x hx => by
    obtain ⟨i, hi, e⟩ := List.mem_iff_getElem.1 hx
    exact h i x (by omega) (by rw [← e]; exact List.getElem?_eq_getElem hi)

set_option maxHeartbeats 1000000 in
theorem isUid_any {u md d fl uid : Int} {id tx : ByteArray} {K : Option Addr} {kn kc b : Nat} {w : World} (hc : w.cell? { block := b, off := 0 } = some (.int .i64 uid)) (hb : b < w.heap.size) :
    Calls Tryz.prog 59 #[.agg #[.int .i64 u, .int .i64 md, .int .i64 d, .string id, .int .i64 fl, .slice K kn kc, .string tx], .pointer (some { block := b, off := 0 })] w fun e w' => e = .returned (.bool (u == uid)) ∧ Below w.heap.size w w' := by
  have hz : (w.alloc (.cells #[.int .i64 u, .int .i64 md, .int .i64 d, .string id, .int .i64 fl, .slice K kn kc, .string tx] 28)).cell? { block := b, off := 0 } = some (.int .i64 uid) := by
    rw [((Below.refl w.heap.size w).alloc (Nat.le_refl _) _).cell (p := ⟨b, 0, none⟩) hb]; exact hc
  clear hc
  go_enter Tryz.func59, Tryz.ntmps59
  go_wp2_with fail
  go_ret
  exact ⟨rfl, (Below.refl _ _).alloc (Nat.le_refl _) _⟩
set_option maxHeartbeats 1000000 in
theorem indexMsg_any {uid : Int} {A : Option Addr} {n cp b B0 : Nat} {ms : List Msg} {w : World} (hm : MsgsAt w B0 A n ms) (hB : B0 ≤ w.heap.size) (hc : w.cell? { block := b, off := 0 } = some (.int .i64 uid)) (hb : b < w.heap.size) :
    Calls Tryz.prog 58 #[.slice A n cp, .func (.func 59) #[] #[.pointer (some { block := b, off := 0 })]] w fun e w' => e = .returned (.int .i64 (findI ms uid)) ∧ Below w.heap.size w w' := by
  have HM := Lib.hid hm
  have hn := hm.max
  have HB := Lib.hid hc
  clear hm hc
  go_enter Tryz.func58, Tryz.ntmps58
  go_wp2_with fail
  go_loopw [8] (fun s8 wr => ∃ k : Nat, k ≤ n ∧ s8 = .int .i64 k ∧ Hid (∀ i x, i < k → ms[i]? = some x → x.uid ≠ uid) ∧ Hid (Below w.heap.size w wr)) (fun s8 _ => n - (intOf s8).toNat)
  case atStart => exact ⟨0, Nat.zero_le _, rfl, fun i _ hi => absurd hi (Nat.not_lt_zero _), Below.refl _ _⟩
  case round =>
    obtain ⟨k, hk, rfl, HT, HA⟩ := hrel
    by_cases hlt : k < n
    · obtain ⟨ad, u, md, d, id, fl, ks, tx, K, kn, kc, rfl, hab, e1, c0, c1, c2, c3, c4, c5, c6, _, _, _, _⟩ := MsgsAt.sp HM.out HA.out hB hlt
      have g1 : (0 : Int) ≤ (k : Int) := by omega
      have g2 : (k : Int) < (n : Int) := by omega
      have C := isUid_any (u := u) (md := md) (d := d) (fl := fl) (id := id) (tx := tx) (K := K) (kn := kn) (kc := kc) (w := wr) ((HA.out.cell (p := ⟨b, 0, none⟩) hb).trans HB.out) (Nat.lt_of_lt_of_le hb HA.out.size)
      by_cases hq : u = uid
      · subst hq
        rw [beq_self_eq_true] at C
        have HF := Lib.hid (findI_hit HT.out e1 rfl)
        have K1 := Lib.hid C
        clear e1 C
        go_wp2_with (go_at_call 59; refine K1.out.mono ?_; rintro e w1 ⟨rfl, hb1⟩)
        go_ret
        exact ⟨ret_int HF.out.symm, HA.out.trans (hb1.mono HA.out.size)⟩
      · have HT2 := Lib.hid (find_next HT.out e1 hq)
        rw [show (u == uid) = false by simpa using hq] at C
        have K1 := Lib.hid C
        clear e1 hq C
        go_wp2_with (go_at_call 59; refine K1.out.mono ?_; rintro e w1 ⟨rfl, hb1⟩)
        have HD := Lib.hid (HA.out.trans (hb1.mono HA.out.size))
        go_roundw
        case rel => exact ⟨k + 1, by omega, by go_num, HT2, HD⟩
        case measure => simp [intOf]; omega
    · obtain rfl : n = k := by omega
      have HF := Lib.hid (find_end HT.out (by have := HM.out.len; omega))
      go_wp2_with fail
      go_ret
      exact ⟨ret_int HF.out.symm, HA.out⟩
set_option maxHeartbeats 1000000 in
theorem find_any {bid : ByteArray} {bv bn bh uid : Int} {WA MA : Option Addr} {wn wc mn mc B0 : Nat} {ms : List Msg} {w : World} (hm : MsgsAt w B0 MA mn ms) (hB : B0 ≤ w.heap.size) :
    Calls Tryz.prog 20 #[.agg #[.string bid, .int .i64 bv, .int .i64 bn, .int .i64 bh, .slice WA wn wc, .slice MA mn mc], .int .i64 uid] w fun e w' => e = .returned (.int .i64 (findI ms uid)) ∧ Below w.heap.size w w' := by
  have C := fun o : Obj => indexMsg_any (cp := mc) (uid := uid) (b := w.heap.size + 1) (w := (w.alloc o).alloc (.cells #[.int .i64 uid] 3)) (MsgsAt.below hm (two_below w o _) hB) (by simp; omega) (by simp) (by simp)
  have K := Lib.hid C
  clear C hm
  go_enter Tryz.func20, Tryz.ntmps20
  go_wp2_with (go_at_call 58; refine (K.out _).mono ?_; rintro e w1 ⟨rfl, hb1⟩)
  go_ret
  exact ⟨rfl, (two_below w _ _).trans (hb1.mono (by simp; omega))⟩

def EmPost (id : ByteArray) (v : Int) (w : World) (e : Ending) (w' : World) : Prop :=
  e = .returned (.agg #[.string id, .int .i64 v, .int .i64 1, .int .i64 1, .slice none 0 0, .slice none 0 0]) ∧ Below w.heap.size w w'
end Go.Proofs.YtchlbbndfhibgaaGreatDoor.BxF
