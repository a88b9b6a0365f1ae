/-
  Heavy of rows: nought of small rows alone.
-/
import Derived.Test.YtdgcihgohkgecaaDoorRwKit
import Derived.WalkKit
import Derived.IntWalk
set_option linter.unusedVariables false
set_option linter.unusedSimpArgs false
namespace Go.Proofs.YtdgcihgohkgecaaDoor.RpH
open Go.RowKit Go.Proofs.YtdgcihgohkgecaaDoor.BxD Go.Proofs.YtdgcihgohkgecaaDoor.BxKit Go.Proofs.YtdgcihgohkgecaaDoor.BxR Go.Proofs.YtdgcihgohkgecaaDoor.RwD Go.Proofs.YtdgcihgohkgecaaDoor.RwKit

def small (r : Row) : Prop := r.msg.keys.length ≤ 90000 ∧ r.msg.id.size ≤ 90000 ∧ r.msg.text.size ≤ 90000 ∧ r.text.size ≤ 90000
set_option maxHeartbeats 2000000 in
set_option maxRecDepth 100000 in
theorem heavySmall_any {A : Option Addr} {n cp B0 : Nat} {l : List Row} {w : World} (hl : RowsAt w B0 A n l) (hB : B0 ≤ w.heap.size) :
    Calls Tryd.prog 16 #[.slice A n cp] w fun e w' => ∃ v : Int, e = .returned (.int .i64 v) ∧ (v ≤ 0 → ∀ r ∈ l, small r) ∧ Below w.heap.size w w' := by
  have HL := Lib.hid hl
  have hn := hl.max
  clear hl
  go_enter Tryd.func16, Tryd.ntmps16
  go_wp2_with fail
  go_loopw [3, 8] (fun s3 s8 wr => ∃ k : Nat, k ≤ n ∧ s8 = .int .i64 k ∧ (∃ z : Nat, s3 = .int .i64 z ∧ z ≤ 90000) ∧ Hid (Below w.heap.size w wr ∧ ∀ j, j < k → ∀ r, l[j]? = some r → small r)) (fun _ s8 _ => n - (intOf s8).toNat)
  case atStart => exact ⟨0, Nat.zero_le _, rfl, ⟨0, rfl, by decide⟩, Below.refl _ _, fun j hj => absurd hj (Nat.not_lt_zero _)⟩
  case round =>
    obtain ⟨k, hk, rfl, ⟨z, rfl, hz⟩, HQ⟩ := hrel
    have HA := Lib.hid HQ.out.1
    have HP := Lib.hid HQ.out.2
    clear HQ
    by_cases hlt : k < n
    · obtain ⟨ad, kd, ru, rm, u, md, d, id, fl, ks, tx, t, K, kn, kc, rfl, _, hx, c0, c1, c2, c3, c4, c5, c6, c7, c8, c9, c10, _, hks, hz1, hz2, hz3⟩ := RowsAt.sp HL.out HA.out hB hlt
      have HC := Lib.hid (fun o => HA.out.alloc HA.out.size o)
      have hkn := hks.max
      have HXK := Lib.hid hx
      have HKL := Lib.hid hks.len
      clear hks hx
      by_cases h1 : 260 ≤ k
      · have h1' : 260 ≤ (k : Int) := by omega
        go_wp2_with fail
        go_ret
        exact ⟨_, rfl, fun h => absurd h (by omega), HC.out _⟩
      have h1' : (k : Int) < 260 := by omega
      by_cases h2 : 90000 < z + (t.size + tx.size + kn + id.size)
      · have h2' : 90000 < (z : Int) + ((t.size : Int) + tx.size + kn + id.size) := by omega
        go_wp2_with fail
        go_ret
        exact ⟨_, rfl, fun h => absurd h (by omega), HC.out _⟩
      · have h2' : (z : Int) + ((t.size : Int) + tx.size + kn + id.size) ≤ 90000 := by omega
        clear h1 h2
        go_wp2_with fail
        go_roundw
        case rel =>
          refine ⟨k + 1, by omega, by go_num, ⟨z + (t.size + tx.size + kn + id.size), by simp only [Int.natCast_add], by omega⟩, HC.out _, ?_⟩
          intro j hj r hr
          by_cases hjk : j < k
          · exact HP.out j hjk r hr
          obtain rfl : j = k := by omega
          have hrr := Option.some.inj (HXK.out.symm.trans hr)
          subst hrr
          have hq := HKL.out
          exact ⟨by show ks.length ≤ 90000; omega, by show id.size ≤ 90000; omega, by show tx.size ≤ 90000; omega, by show t.size ≤ 90000; omega⟩
        case measure => simp [intOf]; omega
    · obtain rfl : k = n := by omega
      go_wp2_with fail
      go_ret
      refine ⟨_, rfl, fun _ r hr => ?_, HA.out⟩
      obtain ⟨j, hj, rfl⟩ := List.getElem_of_mem hr
      have hq := HL.out.len
      exact HP.out j (by omega) _ (List.getElem?_eq_getElem hj)
end Go.Proofs.YtdgcihgohkgecaaDoor.RpH
