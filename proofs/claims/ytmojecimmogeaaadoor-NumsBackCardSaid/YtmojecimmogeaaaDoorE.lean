/-
  An end of a span read off its text; a span read off its text.
-/
import Derived.Test.YtmojecimmogeaaaDoorD
import Derived.Laws.ResultCell
namespace Go.Proofs.YtmojecimmogeaaaDoor.E
open Go.RowKit Go.Proofs.YtmojecimmogeaaaDoor.Kit Go.Proofs.YtmojecimmogeaaaDoor.A Go.Proofs.YtmojecimmogeaaaDoor.B Go.Proofs.YtmojecimmogeaaaDoor.C Go.Proofs.YtmojecimmogeaaaDoor.D

theorem tup_ib {a : Int} {b c : Bool} (h : b = c) : Ending.returned (.tuple #[.int .i64 a, .bool b]) = .returned (.tuple #[.int .i64 a, .bool c]) := by rw [h]
set_option maxHeartbeats 1000000 in
theorem digits_walk (s : ByteArray) (u nd : Nat) (hu : 1 ≤ u) (hm : u ≤ 1000000) (hnd : nd = Lib.nDigits u) (hsz : s.size = nd) (hs : (s.toList == [42]) = false)
    (hg : ∀ k, ∀ h : k < s.size, s[k].toNat = 48 + u / 10 ^ (nd - 1 - k) % 10) (w : World) :
    Calls Tryd.prog 28 #[.string s] w fun e w' => e = .returned (.tuple #[.int .i64 (u : Nat), .bool true]) ∧ w = w' := by
  have h7 : (nd : Int) ≤ 7 := by have := nd_small hu hm; omega
  have HN := Lib.hid hnd
  have HG := Lib.hid hg
  have HZ := Lib.hid hsz
  have hszi : (s.size : Int) ≤ 7 := by omega
  clear hnd hg hsz
  go_enter Tryd.func28, Tryd.ntmps28
  go_wp2_with fail
  go_loop [4, 10] (fun s4 s10 => ∃ k : Nat, k ≤ s.size ∧ s10 = .int .i64 k ∧ s4 = .int .i64 (pre u k : Nat)) (fun _ s10 => s.size - (intOf s10).toNat)
  case atStart => exact ⟨0, Nat.zero_le _, rfl, by rw [pre_zero]; rfl⟩
  case round =>
    obtain ⟨k, hk, rfl, rfl⟩ := hrel
    by_cases hlt : k < s.size
    · have e1 := HG.out k hlt
      have hps := pre_step u k (by have := HN.out; have := HZ.out; omega)
      have hp1 := pre_pos u k hu (by have := HN.out; have := HZ.out; omega)
      have hp2 := pre_le u (k + 1)
      have hnn := HN.out
      rw [← hnn] at hps
      have hd9 : u / 10 ^ (nd - 1 - k) % 10 < 10 := Nat.mod_lt _ (by decide)
      obtain ⟨c, hc⟩ : ∃ c : Nat, c = s[k].toNat := ⟨_, rfl⟩
      obtain ⟨p, hp⟩ : ∃ p : Nat, p = pre u k := ⟨_, rfl⟩
      have hq : ((pre u (k + 1) : Nat) : Int) = 10 * (p : Int) + ((c : Int) - 48) := by rw [hps, hc, e1, hp]; omega
      have hc1 : 48 ≤ (s[k].toNat : Int) := by omega
      have hc2 : (s[k].toNat : Int) ≤ 57 := by omega
      have hq1 : 1 ≤ 10 * (p : Int) + ((s[k].toNat : Int) - 48) := by rw [← hc]; omega
      have hq2 : 10 * (p : Int) + ((s[k].toNat : Int) - 48) ≤ 1000000 := by rw [← hc]; omega
      rw [hc] at hq
      rw [← hp]
      have HQ := Lib.hid hq
      clear e1 hps hp1 hp2 hnn hd9 hc hp hq
      go_wp2_with fail
      go_round
      case rel => exact ⟨k + 1, by omega, by go_num, by rw [HQ.out]⟩
      case measure => simp [intOf]; omega
    · obtain rfl : k = s.size := by omega
      have he : pre u s.size = u := by rw [HZ.out, HN.out]; exact pre_all u
      rw [he]
      have hu' : 0 < (u : Int) := by omega
      clear he
      go_wp2_with fail
      go_ret2
      exact ⟨tup_ib (decide_eq_true (show 0 < u by omega)), rfl⟩

theorem toList_mk (l : List UInt8) : (⟨l.toArray⟩ : ByteArray).toList = l := by rw [ByteArray.toList_eq]
theorem parseEnd_any {n : Int} (h1 : 0 ≤ n) (h2 : n ≤ 1000000) (w : World) :
    Calls Tryd.prog 28 #[.string ⟨(endT n).toArray⟩] w fun e w' => e = .returned (.tuple #[.int .i64 n, .bool true]) ∧ w = w' := by
  by_cases h : n = 0
  · subst h
    have hb : ((⟨#[42]⟩ : ByteArray).toList == [42]) = true := by rw [ByteArray.toList_eq]; rfl
    show Calls Tryd.prog 28 #[.string ⟨#[42]⟩] w _
    go_enter Tryd.func28, Tryd.ntmps28
    go_wp2_with fail
    go_ret2
    exact ⟨rfl, rfl⟩
  · obtain ⟨u, rfl⟩ : ∃ u : Nat, n = u := ⟨n.toNat, by omega⟩
    have e : endT (u : Int) = Lib.decDigits u := by rw [endT_pos h]; rfl
    refine digits_walk ⟨(endT (u : Int)).toArray⟩ u _ (by omega) (by omega) rfl (by rw [e]; simp [ByteArray.size, Lib.decDigits_length]) ?_ (fun k hk => ?_) w
    · rw [beq_eq_false_iff_ne, toList_mk, e]
      intro e2
      have := digits_ne u 42 (by decide)
      rw [e2] at this
      exact this List.mem_cons_self
    · have hk' : k < Lib.nDigits u := by rw [e] at hk; simpa [ByteArray.size, Lib.decDigits_length] using hk
      have h3 := digit_at u k hk'
      have h4 : (⟨(endT (u : Int)).toArray⟩ : ByteArray)[k]'hk = Lib.dg u (Lib.nDigits u - 1 - k) := by
        have h5 : (endT (u : Int))[k]? = some ((⟨(endT (u : Int)).toArray⟩ : ByteArray)[k]'hk) := by
          rw [List.getElem?_eq_getElem (by simpa [ByteArray.size] using hk)]; rfl
        have h6 : (endT (u : Int))[k]? = some (Lib.dg u (Lib.nDigits u - 1 - k)) := by rw [e]; exact h3
        exact Option.some.inj (h5.symm.trans h6)
      rw [h4, dg_val]

/-- The text of a span. -/
def spT (s : Sp) : List UInt8 := if s.1 = s.2 then endT s.1 else endT s.1 ++ 58 :: endT s.2
theorem spT_one {x y : Int} (h : x = y) : spT (x, y) = endT x := if_pos h
theorem spT_two {x y : Int} (h : x ≠ y) : spT (x, y) = endT x ++ 58 :: endT y := if_neg h
theorem spT_ne (s : Sp) : (44 : UInt8) ∉ spT s := by
  unfold spT
  split
  · exact endT_ne _ _ (.inl rfl)
  · intro h
    rcases List.mem_append.1 h with h | h
    · exact endT_ne _ _ (.inl rfl) h
    · rcases List.mem_cons.1 h with h | h
      · cases h
      · exact endT_ne _ _ (.inl rfl) h
theorem okS_parts {x y : Int} (h : okS (x, y) = true) : (0 ≤ x ∧ x ≤ 1000000) ∧ (0 ≤ y ∧ y ≤ 1000000) := by
  unfold okS okE at h
  rw [Bool.and_eq_true] at h
  exact ⟨of_decide_eq_true h.1, of_decide_eq_true h.2⟩
theorem spT_len {x y : Int} (h : okS (x, y) = true) : 1 ≤ (spT (x, y)).length ∧ (spT (x, y)).length ≤ 15 := by
  obtain ⟨⟨a1, a2⟩, b1, b2⟩ := okS_parts h
  have h1 := endT_len a1 a2
  have h2 := endT_len b1 b2
  by_cases e : x = y
  · rw [spT_one e]; omega
  · rw [spT_two e, List.length_append, List.length_cons]; omega

set_option maxHeartbeats 1000000 in
theorem parseSpan_any {x y : Int} (h : okS (x, y) = true) (w : World) :
    Calls Tryd.prog 20 #[.string ⟨(spT (x, y)).toArray⟩] w fun e w' => e = .returned (.tuple #[.agg #[.int .i64 x, .int .i64 y], .bool true]) ∧ Below w.heap.size w w' := by
  obtain ⟨⟨a1, a2⟩, b1, b2⟩ := okS_parts h
  have hl := (spT_len h).2
  have P1 := Lib.hid (fun w => parseEnd_any a1 a2 w)
  have P2 := Lib.hid (fun w => parseEnd_any b1 b2 w)
  by_cases e : x = y
  · subst e
    rw [spT_one rfl] at hl ⊢
    have C := Lib.hid (fun w => cut_miss (endT x) 58 (endT_ne _ _ (.inr rfl)) w)
    obtain ⟨E, hE⟩ : ∃ E : ByteArray, E = ⟨(endT x).toArray⟩ := ⟨_, rfl⟩
    rw [← hE] at P1 C ⊢
    clear P2 hl h a1 a2 b1 b2 hE
    go_enter Tryd.func20, Tryd.ntmps20
    go_wp2_with fail
    refine (C.out _).mono ?_
    rintro e w1 ⟨rfl, m, rfl⟩
    go_wp2_with (go_at_call 28; refine (P1.out _).mono ?_; rintro e w' ⟨rfl, rfl⟩)
    refine bodyPost_ret (v := .tuple #[.agg #[.int .i64 x, .int .i64 x], .bool true]) (by rw [results_cell_tmp rfl]; go_simp) rfl ?_
    exact ⟨rfl, ((below_drewN ((Below.refl w.heap.size w).alloc (Nat.le_refl _) _) m).setCell (Nat.le_refl _) _).setCell (Nat.le_refl _) _⟩
  · rw [spT_two e] at hl ⊢
    have C := Lib.hid (fun w => cut_hit (endT x) (endT y) 58 (endT_ne _ _ (.inr rfl)) (by unfold maxLen; omega) w)
    obtain ⟨E, hE⟩ : ∃ E : ByteArray, E = ⟨(endT x).toArray⟩ := ⟨_, rfl⟩
    obtain ⟨F, hF⟩ : ∃ F : ByteArray, F = ⟨(endT y).toArray⟩ := ⟨_, rfl⟩
    obtain ⟨G, hG⟩ : ∃ G : ByteArray, G = ⟨(endT x ++ 58 :: endT y).toArray⟩ := ⟨_, rfl⟩
    rw [← hE] at P1 C
    rw [← hF] at P2 C
    rw [← hG] at C ⊢
    clear hl h a1 a2 b1 b2 hE hF hG e
    go_enter Tryd.func20, Tryd.ntmps20
    go_wp2_with fail
    refine (C.out _).mono ?_
    rintro e w1 ⟨rfl, m, rfl⟩
    go_wp2_with fail
    refine (P1.out _).mono ?_
    rintro e w1 ⟨rfl, rfl⟩
    go_wp2_with fail
    refine (P2.out _).mono ?_
    rintro e w1 ⟨rfl, rfl⟩
    go_wp2_with fail
    refine bodyPost_ret (v := .tuple #[.agg #[.int .i64 x, .int .i64 y], .bool true]) (by rw [results_cell_tmp rfl]; go_simp) rfl ?_
    exact ⟨rfl, ((below_drewN ((Below.refl w.heap.size w).alloc (Nat.le_refl _) _) m).setCell (Nat.le_refl _) _).setCell (Nat.le_refl _) _⟩
end Go.Proofs.YtmojecimmogeaaaDoor.E
