/-
  Calls that can be gone through; files alike.
-/
import Derived.Test.YtefgcckdlebfaaaRkAw
import Derived.Test.YtefgcckdlebfaaaRkL
namespace Go.Proofs.Ytefgcckdlebfaaa.RkH
open Go.RowKit Go.Proofs.Ytefgcckdlebfaaa.BxD Go.Proofs.Ytefgcckdlebfaaa.BxKit Go.Proofs.Ytefgcckdlebfaaa.RkO Go.Proofs.Ytefgcckdlebfaaa.RkC Go.Proofs.Ytefgcckdlebfaaa.RkD Go.Proofs.Ytefgcckdlebfaaa.RkR Go.Proofs.Ytefgcckdlebfaaa.RkK Go.Proofs.Ytefgcckdlebfaaa.RkP Go.Proofs.Ytefgcckdlebfaaa.RkQ Go.Proofs.Ytefgcckdlebfaaa.RkE Go.Proofs.Ytefgcckdlebfaaa.RkS Go.Proofs.Ytefgcckdlebfaaa.RkM Go.Proofs.Ytefgcckdlebfaaa.RkN Go.Proofs.Ytefgcckdlebfaaa.RkV Go.Proofs.Ytefgcckdlebfaaa.RkW Go.Proofs.Ytefgcckdlebfaaa.RkU Go.Proofs.Ytefgcckdlebfaaa.RkT Go.Proofs.Ytefgcckdlebfaaa.RkG Go.Proofs.Ytefgcckdlebfaaa.RkAw Go.Proofs.Ytefgcckdlebfaaa.RkL

def wgt (c : Cl) : Nat := c.name.size + c.data.length + c.picks.length
def tot (l : List Cl) : Nat := (l.map wgt).sum
theorem tot_take {l : List Cl} {k : Nat} {x : Cl} (h : l[k]? = some x) : tot (l.take (k + 1)) = tot (l.take k) + wgt x := by
  obtain ⟨hl, rfl⟩ := List.getElem?_eq_some_iff.1 h
  unfold tot; rw [List.take_succ_eq_append_getElem hl, List.map_append, List.sum_append]; simp only [List.map_cons, List.map_nil, List.sum_cons, List.sum_nil, Nat.add_zero]
theorem wgt_le {l : List Cl} {x : Cl} (h : x ∈ l) : wgt x ≤ tot l := by
  unfold tot
  induction l with
  | nil => simp at h
  | cons a r ih =>
    rw [List.map_cons, List.sum_cons]
    rcases List.mem_cons.1 h with rfl | h
    · omega
    · have := ih h; omega
theorem calls_later {w w2 : World} {A : Option Addr} {n : Nat} {l : List Cl} (h : CallsAt w w.heap.size A n l) (hb : Below w.heap.size w w2) : CallsAt w2 w2.heap.size A n l :=
  h.map hb.size fun p x hp hx => by
    obtain ⟨h0, h1, h2, ⟨D, dc, h3, h4, h5, h6⟩, ⟨P, pc, h7, h8, h9, h10⟩, h11⟩ := hx.keep hp hb
    exact ⟨h0, h1, h2, ⟨D, dc, h3, h4, h5.more hb.size, h6⟩, ⟨P, pc, h7, h8, h9.more hb.size, h10⟩, h11⟩
/-- Heavy: 0 of calls that can be gone through. -/
def HvPost (l : List Cl) (w : World) (e : Ending) (w' : World) : Prop := ∃ h : Int, e = .returned (.int .i64 h) ∧ 0 ≤ h ∧ h ≤ 101 ∧ (h = 0 → l.length ≤ 100 ∧ tot l ≤ 300000) ∧ Below w.heap.size w w'
set_option maxHeartbeats 2000000 in
theorem heavy_any {w : World} {A : Option Addr} {n c : Nat} {l : List Cl} (h : CallsAt w w.heap.size A n l) : Calls Try.prog 8 #[.slice A n c] w (HvPost l w) := by
  have HC := Lib.hid h
  have hmx := h.max
  have HL := Lib.hid h.len
  clear h
  go_enter Try.func8, Try.ntmps8
  go_wp2_with fail
  go_loopw [8, 3] (fun s8 s3 wr => ∃ k q : Nat, k ≤ n ∧ k ≤ 100 ∧ s8 = .int .i64 k ∧ s3 = .int .i64 q ∧ q ≤ 300000 ∧ Hid (q = tot (l.take k)) ∧ Hid (Below w.heap.size w wr)) (fun s8 _ _ => n - (intOf s8).toNat)
  case atStart => exact ⟨0, 0, Nat.zero_le _, Nat.zero_le _, rfl, rfl, Nat.zero_le _, by simp [tot, Hid], Below.refl _ _⟩
  case round =>
    obtain ⟨k, q, hk, hk1, rfl, rfl, hq, HQ, HB⟩ := hrel
    have hsz := HB.out.size
    by_cases hlt : k < n
    · obtain ⟨ad, dd, nn, nm, D, dl, dc, ds, P, pl, pc, ps, rfl, hx, c0, c1, c2, c3, c4, hD, hP, hnn, hnm, hdl, hpl, _⟩ := CallsAt.sp HC.out HB.out hlt
      have htk := tot_take hx
      have hwg : wgt ⟨dd, nn, nm, ds, ps⟩ = nm.size + dl + pl := by unfold wgt; rw [← hD.1, ← hP.1]
      rw [hwg, ← HQ.out] at htk
      have HTK := Lib.hid htk
      have HB1 := Lib.hid (HB.out.alloc hsz (.cells #[.int .i64 dd, .int .i64 nn, .string nm, .slice D dl dc, .slice P pl pc] 31))
      clear hx htk hwg hD hP
      by_cases h100 : 100 ≤ k
      · have hki : (100 : Int) ≤ (k : Int) := by omega
        go_wp2_with fail
        go_ret
        exact ⟨(k : Int) + 1, rfl, by omega, by omega, by omega, HB1.out⟩
      · have hki : ¬ (100 : Int) ≤ (k : Int) := by omega
        by_cases hgt : 300000 < q + (nm.size + dl + pl)
        · have hqi : (300000 : Int) < (q : Int) + ((nm.size : Int) + (dl : Int) + (pl : Int)) := by omega
          go_wp2_with fail
          go_ret
          exact ⟨(k : Int) + 1, rfl, by omega, by omega, by omega, HB1.out⟩
        · have hqi : ¬ (300000 : Int) < (q : Int) + ((nm.size : Int) + (dl : Int) + (pl : Int)) := by omega
          go_wp2_with fail
          go_roundw
          case measure => simp [intOf]; omega
          case rel => exact ⟨k + 1, q + (nm.size + dl + pl), by omega, by omega, by go_num, by go_num, by omega, by rw [HTK.out]; rfl, HB1⟩
    · obtain rfl : k = n := by omega
      have HT := Lib.hid (show l.length ≤ 100 ∧ tot l ≤ 300000 by
        have h1 := HQ.out
        rw [List.take_of_length_le (by rw [HL.out]; exact Nat.le_refl _)] at h1
        exact ⟨by rw [HL.out]; exact hk1, by omega⟩)
      go_wp2_with fail
      go_ret
      exact ⟨0, rfl, by omega, by omega, fun _ => HT.out, HB.out⟩

/-- Are files alike? -/
theorem fext {a b : List F} (h : a.length = b.length) (k : ∀ (i : Nat) (x y : F), a[i]? = some x → b[i]? = some y → x = y) : a = b := by
  apply List.ext_getElem?
  intro i
  rcases Nat.lt_or_ge i a.length with hi | hi
  · rw [List.getElem?_eq_getElem hi, List.getElem?_eq_getElem (by omega)]
    exact congrArg some (k i _ _ (List.getElem?_eq_getElem hi) (List.getElem?_eq_getElem (by omega)))
  · rw [List.getElem?_eq_none hi, List.getElem?_eq_none (by omega)]
set_option maxHeartbeats 2000000 in
theorem same_files {w : World} {A1 A2 : Option Addr} {n1 n2 c1 c2 : Nat} {a b : List F} (h1 : FilesT w A1 n1 a) (h2 : FilesT w A2 n2 b) (hn : n1 ≤ 100000) :
    Calls Try.prog 32 #[.slice A1 n1 c1, .slice A2 n2 c2] w fun e w' => e = .returned (.bool (decide (a = b))) ∧ Below w.heap.size w w' := by
  have HA := Lib.hid h1
  have HB := Lib.hid h2
  have la := h1.len
  have lb := h2.len
  by_cases hne : n1 = n2
  · subst hne
    have LA := Lib.hid la
    have LB := Lib.hid lb
    clear h1 h2 la lb
    go_enter Try.func32, Try.ntmps32
    go_wp2_with fail
    go_loopw [13] (fun s13 wr => ∃ k : Nat, k ≤ n1 ∧ s13 = .int .i64 k ∧ Hid (∀ (i : Nat) (x y : F), i < k → a[i]? = some x → b[i]? = some y → x = y) ∧ Hid (Below w.heap.size w wr)) (fun s13 _ => n1 - (intOf s13).toNat)
    case atStart => exact ⟨0, Nat.zero_le _, rfl, fun i x y h => absurd h (Nat.not_lt_zero i), Below.refl _ _⟩
    case round =>
      obtain ⟨k, hk, rfl, HE, HW⟩ := hrel
      by_cases hlt : k < n1
      · obtain ⟨ad, x, K, kd, kc, rfl, hp, d1, d2, hle, hby⟩ := HA.out.sp (Kp.below HW.out (Nat.le_refl _)) hlt
        obtain ⟨ad', x', K', kd', kc', rfl, hp', d1', d2', hle', hby'⟩ := HB.out.sp (Kp.below HW.out (Nat.le_refl _)) hlt
        have hk1 : (k : Int) < (n1 : Int) := by omega
        have hk0 : (0 : Int) ≤ (k : Int) := by omega
        by_cases hx : x = x'
        · subst hx
          have hcv := fun nq => PkKit.BytesAt.conv (w := wr.drewN nq) (hby.at_.below (BxKit.below_drewN (Below.refl _ _) nq) (Nat.le_refl _)) kc
          have hcv' := fun nq => PkKit.BytesAt.conv (w := wr.drewN nq) (hby'.at_.below (BxKit.below_drewN (Below.refl _ _) nq) (Nat.le_refl _)) kc'
          obtain ⟨m, hm⟩ : ∃ m, m = kd.length := ⟨_, rfl⟩
          obtain ⟨m', hm'⟩ : ∃ m', m' = kd'.length := ⟨_, rfl⟩
          rw [← hm] at hcv d2
          rw [← hm'] at hcv' d2'
          obtain ⟨X, hX⟩ : ∃ X : ByteArray, X = ⟨kd.toArray⟩ := ⟨_, rfl⟩
          obtain ⟨X', hX'⟩ : ∃ X' : ByteArray, X' = ⟨kd'.toArray⟩ := ⟨_, rfl⟩
          rw [← hX] at hcv
          rw [← hX'] at hcv'
          have hxx : (x.toList == x.toList) = true := by simp
          by_cases hkk : kd = kd'
          · have hXX : (X.toList == X'.toList) = true := by rw [hX, hX', hkk]; simp
            have HE2 : Hid (∀ (i : Nat) (x y : F), i < k + 1 → a[i]? = some x → b[i]? = some y → x = y) := by
              intro i u v hi hu hv
              rcases Nat.lt_or_ge i k with h | h
              · exact HE.out i u v h hu hv
              · obtain rfl : i = k := by omega
                rw [hp] at hu
                rw [hp'] at hv
                rw [← Option.some.inj hu, ← Option.some.inj hv, hkk]
            clear hm hm' hX hX' hkk hp hp'
            go_upto_region 6 with fail
            go_quiet (fail)
            go_wp2_with fail
            go_roundw
            case measure => simp [intOf]; omega
            case rel => exact ⟨k + 1, by omega, by go_num, HE2, Lib.hid (HW.out.trans (BxKit.below_drewN (Below.refl _ _) _))⟩
          · have hXX : (X.toList == X'.toList) = false := by
              rw [hX, hX', ByteArray.toList_eq, ByteArray.toList_eq]; simpa using hkk
            have HN := Lib.hid (show decide (a = b) = false from decide_eq_false fun e => hkk (by rw [e, hp'] at hp; exact (congrArg Prod.snd (Option.some.inj hp)).symm))
            clear hm hm' hX hX' hp hp' hkk
            go_upto_region 6 with fail
            go_quiet (fail)
            go_wp2_with fail
            go_ret
            exact ⟨by rw [HN.out]; rfl, HW.out.trans (BxKit.below_drewN (Below.refl _ _) _)⟩
        · have hxx : (x.toList == x'.toList) = false := by
            cases h : (x.toList == x'.toList) with
            | false => rfl
            | true => exact absurd (ba_ext (by simpa using h)) hx
          have HN := Lib.hid (show decide (a = b) = false from decide_eq_false fun e => hx (by rw [e, hp'] at hp; exact (congrArg Prod.fst (Option.some.inj hp)).symm))
          clear hp hp' hx
          go_upto_region 6 with fail
          go_quiet (fail)
          go_wp2_with fail
          go_ret
          exact ⟨by rw [HN.out]; rfl, HW.out.trans (BxKit.below_drewN (Below.refl _ _) _)⟩
      · obtain rfl : k = n1 := by omega
        have HN := Lib.hid (show decide (a = b) = true from decide_eq_true (fext (by rw [LA.out, LB.out]) fun i x y hx hy => HE.out i x y (by have := (List.getElem?_eq_some_iff.1 hx).1; rw [LA.out] at this; exact this) hx hy))
        go_wp2_with fail
        go_ret
        exact ⟨by rw [HN.out]; rfl, HW.out⟩
  · have HN := Lib.hid (show decide (a = b) = false from decide_eq_false fun e => hne (by rw [← la, ← lb, e]))
    have hni : ((n1 : Int) == (n2 : Int)) = false := by rw [beq_eq_false_iff_ne]; omega
    clear h1 h2 la lb hne
    go_enter Try.func32, Try.ntmps32
    go_wp2_with fail
    go_ret
    exact ⟨by rw [HN.out]; rfl, Below.refl _ _⟩
end Go.Proofs.Ytefgcckdlebfaaa.RkH
