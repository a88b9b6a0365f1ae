/-
  Heavy: what it lets by has few words, messages and keys.
-/
import Derived.Test.YtnicijeeocknaaaDoorBxA
set_option linter.unusedVariables false
set_option linter.unusedSimpArgs false
namespace Go.Proofs.YtnicijeeocknaaaDoor.BxH
open Go.RowKit Go.Proofs.YtnicijeeocknaaaDoor.BxD Go.Proofs.YtnicijeeocknaaaDoor.BxKit Go.Proofs.YtnicijeeocknaaaDoor.BxA

/-- How much there is to go through. -/
def wSum (ws : List ByteArray) : Nat := (ws.map ByteArray.size).sum
def mSum (ms : List Msg) : Nat := (ms.map fun m => m.keys.length + m.text.size + m.id.size).sum
theorem wSum_snoc {ws : List ByteArray} {k : Nat} {x : ByteArray} (h : ws[k]? = some x) : wSum (ws.take (k + 1)) = wSum (ws.take k) + x.size := by
  obtain ⟨hl, rfl⟩ := List.getElem?_eq_some_iff.1 h
  unfold wSum
  rw [List.take_succ_eq_append_getElem hl, List.map_append, List.sum_append]
  simp only [List.map_cons, List.map_nil, List.sum_cons, List.sum_nil, Nat.add_zero]
theorem mSum_snoc {ms : List Msg} {k : Nat} {m : Msg} (h : ms[k]? = some m) : mSum (ms.take (k + 1)) = mSum (ms.take k) + (m.keys.length + m.text.size + m.id.size) := by
  obtain ⟨hl, rfl⟩ := List.getElem?_eq_some_iff.1 h
  unfold mSum
  rw [List.take_succ_eq_append_getElem hl, List.map_append, List.sum_append]
  simp only [List.map_cons, List.map_nil, List.sum_cons, List.sum_nil, Nat.add_zero]
theorem mSum_ge {ms : List Msg} {m : Msg} (h : m ∈ ms) : m.keys.length + m.text.size + m.id.size ≤ mSum ms := by
  unfold mSum
  induction ms with
  | nil => cases h
  | cons a r ih =>
    rw [List.map_cons, List.sum_cons]
    rcases List.mem_cons.1 h with rfl | h
    · omega
    · have := ih h; omega
/-- What Heavy answers. -/
def big (bid : ByteArray) (ws : List ByteArray) (ms : List Msg) : Prop := 60000 < bid.size + ws.length + ms.length + wSum ws + mSum ms ∨ 100 < ws.length ∨ 100 < ms.length
instance big_dec (bid : ByteArray) (ws : List ByteArray) (ms : List Msg) : Decidable (big bid ws ms) := inferInstanceAs (Decidable (_ ∨ _))
def hv (bid : ByteArray) (ws : List ByteArray) (ms : List Msg) : Int := if big bid ws ms then 1 else 0
theorem hv_or (bid : ByteArray) (ws : List ByteArray) (ms : List Msg) : hv bid ws ms = 1 ∨ (hv bid ws ms = 0 ∧ ws.length ≤ 100 ∧ ms.length ≤ 100 ∧ ∀ m ∈ ms, m.keys.length ≤ 60000) := by
  unfold hv
  by_cases h : big bid ws ms
  · exact .inl (if_pos h)
  · unfold big at h
    refine .inr ⟨if_neg h, by omega, by omega, fun m hm => ?_⟩
    have := mSum_ge hm
    omega
theorem hv_one {bid : ByteArray} {ws : List ByteArray} {ms : List Msg} (h : big bid ws ms) : hv bid ws ms = 1 := if_pos h
theorem hv_zero {bid : ByteArray} {ws : List ByteArray} {ms : List Msg} (h : ¬ big bid ws ms) : hv bid ws ms = 0 := if_neg h

set_option maxHeartbeats 2000000 in
set_option maxRecDepth 100000 in
theorem heavy_big {bid : ByteArray} {bv bn bh : Int} {WA MA : Option Addr} {wn wc mn mc B0 B1 : Nat} {ws : List ByteArray} {ms : List Msg} {w : World} (hx : StrsAt w B0 WA wn ws) (hm : MsgsAt w B1 MA mn ms) (hB : B0 ≤ w.heap.size) (hB1 : B1 ≤ w.heap.size) (hbig : 100 < wn ∨ 100 < mn) :
    Calls Tryd.prog 4 #[.agg #[.string bid, .int .i64 bv, .int .i64 bn, .int .i64 bh, .slice WA wn wc, .slice MA mn mc]] w fun e w' => e = .returned (.int .i64 1) ∧ Below w.heap.size w w' := by
  have HX := Lib.hid hx
  have HM := Lib.hid hm
  have hwn := hx.max
  have hmn := hm.max
  clear hx hm
  go_enter Tryd.func4, Tryd.ntmps4
  go_wp2_with fail
  have HS := Lib.hid (After.start w (.cells #[.string bid, .int .i64 bv, .int .i64 bn, .int .i64 bh, .slice WA wn wc, .slice MA mn mc] 25))
  go_loopw [3, 22] (fun s3 s22 wr => ∃ k : Nat, k ≤ wn ∧ s22 = .int .i64 k ∧ (∃ z : Int, s3 = .int .i64 z) ∧ Hid (After w (.cells #[.string bid, .int .i64 bv, .int .i64 bn, .int .i64 bh, .slice WA wn wc, .slice MA mn mc] 25) wr)) (fun _ s22 _ => wn - (intOf s22).toNat)
  case atStart => exact ⟨0, Nat.zero_le _, rfl, ⟨_, rfl⟩, HS⟩
  case round =>
    obtain ⟨k, hk, rfl, ⟨z, rfl⟩, HA⟩ := hrel
    by_cases hlt : k < wn
    · obtain ⟨ad1, x1, rfl, e1, hc1⟩ := StrsAt.at_ HX.out HA.out.below hB hlt
      clear e1
      go_wp2_with fail
      go_roundw
      case rel => exact ⟨k + 1, by omega, by go_num, ⟨_, rfl⟩, HA⟩
      case measure => simp [intOf]; omega
    · obtain rfl : wn = k := by omega
      obtain ⟨b0, b1, b2, b3, b4, b5⟩ := HA.out.box
      go_wp2_with fail
      clear b0 b1 b2 b3 b4 b5
      go_loopw [3, 34] (fun s3 s34 wr => ∃ k : Nat, k ≤ mn ∧ s34 = .int .i64 k ∧ (∃ z : Int, s3 = .int .i64 z) ∧ Hid (After w (.cells #[.string bid, .int .i64 bv, .int .i64 bn, .int .i64 bh, .slice WA wn wc, .slice MA mn mc] 25) wr)) (fun _ s34 _ => mn - (intOf s34).toNat)
      case atStart => exact ⟨0, Nat.zero_le _, rfl, ⟨_, rfl⟩, HA⟩
      case round =>
        obtain ⟨k2, hk2, rfl, ⟨z, rfl⟩, HA⟩ := hrel
        by_cases hlt : k2 < mn
        · obtain ⟨ad, u, md, d, id, fl, ks, tx, K, kn, kc, rfl, hab, e1, c0, c1, c2, c3, c4, c5, c6, _, _, _, _⟩ := MsgsAt.sp HM.out HA.out.below hB1 hlt
          have HC := Lib.hid (fun o => HA.out.alloc o)
          clear e1
          go_wp2_with fail
          go_roundw
          case rel => exact ⟨k2 + 1, by omega, by go_num, ⟨_, rfl⟩, HC.out _⟩
          case measure => simp [intOf]; omega
        · obtain rfl : mn = k2 := by omega
          obtain ⟨b0, b1, b2, b3, b4, b5⟩ := HA.out.box
          by_cases hz : 60000 < z
          · go_wp2_with fail
            go_ret
            exact ⟨rfl, HA.out.below⟩
          have hz' : z ≤ 60000 := by omega
          clear hz
          by_cases hw : 100 < (wn : Int)
          · go_wp2_with fail
            go_ret
            exact ⟨rfl, HA.out.below⟩
          have hw' : (wn : Int) ≤ 100 := by omega
          have hm' : 100 < (mn : Int) := by omega
          clear hw hbig
          go_wp2_with fail
          go_ret
          exact ⟨rfl, HA.out.below⟩

set_option maxHeartbeats 2000000 in
set_option maxRecDepth 100000 in
theorem heavy_small {bid : ByteArray} {bv bn bh : Int} {WA MA : Option Addr} {wn wc mn mc B0 B1 : Nat} {ws : List ByteArray} {ms : List Msg} {w : World} (hx : StrsAt w B0 WA wn ws) (hm : MsgsAt w B1 MA mn ms) (hB : B0 ≤ w.heap.size) (hB1 : B1 ≤ w.heap.size) (hbid : bid.size ≤ 140737488355328) (hw : wn ≤ 100) (hmm : mn ≤ 100) :
    Calls Tryd.prog 4 #[.agg #[.string bid, .int .i64 bv, .int .i64 bn, .int .i64 bh, .slice WA wn wc, .slice MA mn mc]] w fun e w' => e = .returned (.int .i64 (hv bid ws ms)) ∧ Below w.heap.size w w' := by
  have HX := Lib.hid hx
  have HM := Lib.hid hm
  clear hx hm
  go_enter Tryd.func4, Tryd.ntmps4
  go_wp2_with fail
  have HS := Lib.hid (After.start w (.cells #[.string bid, .int .i64 bv, .int .i64 bn, .int .i64 bh, .slice WA wn wc, .slice MA mn mc] 25))
  go_loopw [3, 22] (fun s3 s22 wr => ∃ k : Nat, k ≤ wn ∧ s22 = .int .i64 k ∧ (∃ z : Nat, s3 = .int .i64 z ∧ z ≤ 140737488355528 + k * 140737488355328 ∧ Hid (z = bid.size + wn + mn + wSum (ws.take k))) ∧ Hid (After w (.cells #[.string bid, .int .i64 bv, .int .i64 bn, .int .i64 bh, .slice WA wn wc, .slice MA mn mc] 25) wr)) (fun _ s22 _ => wn - (intOf s22).toNat)
  case atStart => exact ⟨0, Nat.zero_le _, rfl, ⟨bid.size + wn + mn, by simp only [Int.natCast_add], by omega, rfl⟩, HS⟩
  case round =>
    obtain ⟨k, hk, rfl, ⟨z, rfl, hz, HZ⟩, HA⟩ := hrel
    by_cases hlt : k < wn
    · obtain ⟨ad1, x1, hx1, hsz, e1, hcc, hsx⟩ := (HX.out).get hlt
      obtain ⟨ad1, x2, rfl, e2, hc1⟩ := StrsAt.at_ HX.out HA.out.below hB hlt
      rw [e2] at e1
      injection e1 with e1
      subst e1
      have HE := Lib.hid (show z + x2.size = bid.size + wn + mn + wSum (ws.take (k + 1)) by rw [wSum_snoc e2, HZ.out]; omega)
      clear e2 hx1 hcc hsz
      go_wp2_with fail
      go_roundw
      case rel => exact ⟨k + 1, by omega, by go_num, ⟨z + x2.size, by simp only [Int.natCast_add], by omega, HE⟩, HA⟩
      case measure => simp [intOf]; omega
    · obtain rfl : wn = k := by omega
      obtain ⟨b0, b1, b2, b3, b4, b5⟩ := HA.out.box
      go_wp2_with fail
      clear b0 b1 b2 b3 b4 b5
      go_loopw [3, 34] (fun s3 s34 wr => ∃ k : Nat, k ≤ mn ∧ s34 = .int .i64 k ∧ (∃ z : Nat, s3 = .int .i64 z ∧ z ≤ 14214486323888328 + k * 422212465065984 ∧ Hid (z = bid.size + wn + mn + wSum ws + mSum (ms.take k))) ∧ Hid (After w (.cells #[.string bid, .int .i64 bv, .int .i64 bn, .int .i64 bh, .slice WA wn wc, .slice MA mn mc] 25) wr)) (fun _ s34 _ => mn - (intOf s34).toNat)
      case atStart =>
        have h0 : z ≤ 14214486323888328 := by
          have := Nat.mul_le_mul_right 140737488355328 hw
          exact Nat.le_trans hz (Nat.le_trans (Nat.add_le_add_left this _) (by decide))
        have h1 : z ≤ 14214486323888328 + 0 * 422212465065984 := Nat.le_trans h0 (Nat.le_add_right _ _)
        have h2 : z = bid.size + wn + mn + wSum ws + mSum (ms.take 0) := by
          have h := HZ.out
          rw [take_len HX.out.len] at h
          exact h
        exact ⟨0, Nat.zero_le _, rfl, ⟨z, rfl, h1, h2⟩, HA⟩
      case round =>
        clear hz
        obtain ⟨k2, hk2, rfl, ⟨z, rfl, hz, HZ⟩, HA⟩ := hrel
        by_cases hlt : k2 < mn
        · obtain ⟨ad, u, md, d, id, fl, ks, tx, K, kn, kc, rfl, hab, e1, c0, c1, c2, c3, c4, c5, c6, _, hks, hi1, hi2⟩ := MsgsAt.sp HM.out HA.out.below hB1 hlt
          have HC := Lib.hid (fun o => HA.out.alloc o)
          have hkn := hks.max
          have HE := Lib.hid (show z + (kn + tx.size + id.size) = bid.size + wn + mn + wSum ws + mSum (ms.take (k2 + 1)) by rw [mSum_snoc e1]; have := HZ.out; have := hks.len; simp only; omega)
          clear e1 hks
          go_wp2_with fail
          go_roundw
          case rel => exact ⟨k2 + 1, by omega, by go_num, ⟨z + (kn + tx.size + id.size), by simp only [Int.natCast_add], by omega, HE⟩, HC.out _⟩
          case measure => simp [intOf]; omega
        · obtain rfl : mn = k2 := by omega
          obtain ⟨b0, b1, b2, b3, b4, b5⟩ := HA.out.box
          have hw' : (wn : Int) ≤ 100 := by omega
          have hm' : (mn : Int) ≤ 100 := by omega
          by_cases hzz : 60000 < (z : Int)
          · have HF := Lib.hid (hv_one (bid := bid) (ws := ws) (ms := ms) (.inl (by have := HZ.out; rw [take_len HM.out.len] at this; have := HX.out.len; have := HM.out.len; omega)))
            go_wp2_with fail
            go_ret
            exact ⟨ret_int HF.out.symm, HA.out.below⟩
          have HF := Lib.hid (hv_zero (bid := bid) (ws := ws) (ms := ms) (fun h => by
            have h1 := HZ.out
            rw [take_len HM.out.len] at h1
            have := HX.out.len
            have := HM.out.len
            rcases h with h | h | h <;> omega))
          have hzz' : (z : Int) ≤ 60000 := by omega
          clear hzz
          go_wp2_with fail
          go_ret
          exact ⟨ret_int HF.out.symm, HA.out.below⟩
theorem heavy_any {bid : ByteArray} {bv bn bh : Int} {WA MA : Option Addr} {wn wc mn mc B0 B1 : Nat} {ws : List ByteArray} {ms : List Msg} {w : World} (hx : StrsAt w B0 WA wn ws) (hm : MsgsAt w B1 MA mn ms) (hB : B0 ≤ w.heap.size) (hB1 : B1 ≤ w.heap.size) (hbid : bid.size ≤ 140737488355328) :
    Calls Tryd.prog 4 #[.agg #[.string bid, .int .i64 bv, .int .i64 bn, .int .i64 bh, .slice WA wn wc, .slice MA mn mc]] w fun e w' => e = .returned (.int .i64 (hv bid ws ms)) ∧ Below w.heap.size w w' := by
  by_cases h : 100 < wn ∨ 100 < mn
  · rw [hv_one (bid := bid) (.inr (by rw [hx.len, hm.len]; exact h))]
    exact heavy_big hx hm hB hB1 h
  · exact heavy_small hx hm hB hB1 hbid (by omega) (by omega)
end Go.Proofs.YtnicijeeocknaaaDoor.BxH
