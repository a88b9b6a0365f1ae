/-
  RdD + RdF
-/
import Derived.Test.YtchlbbndfhibgaaGreatDoorRpD
import Derived.Test.YtchlbbndfhibgaaGreatDoorJ7
import Derived.Test.YtchlbbndfhibgaaGreatDoorBxR
import Derived.Deep.DeepCutAuto
import Derived.Lib.Hide
set_option linter.unusedVariables false
set_option linter.unusedSimpArgs false
namespace Go.Proofs.YtchlbbndfhibgaaGreatDoor.RdD
open Go.RowKit Go.Proofs.YtchlbbndfhibgaaGreatDoor.BxD Go.Proofs.YtchlbbndfhibgaaGreatDoor.BxOp Go.Proofs.YtchlbbndfhibgaaGreatDoor.RwD Go.Proofs.YtchlbbndfhibgaaGreatDoor.RwM Go.Proofs.YtchlbbndfhibgaaGreatDoor.PkA Go.Proofs.YtchlbbndfhibgaaGreatDoor.PkB Go.Proofs.YtchlbbndfhibgaaGreatDoor.PkD Go.Proofs.YtchlbbndfhibgaaGreatDoor.PkF Go.Proofs.YtchlbbndfhibgaaGreatDoor.OlD Go.Proofs.YtchlbbndfhibgaaGreatDoor.PtD Go.Proofs.YtchlbbndfhibgaaGreatDoor.PtR Go.Proofs.YtchlbbndfhibgaaGreatDoor.RpD

theorem kyF_good {k : Int} (h0 : 0 ≤ k) (h1 : k ≤ 63) (rest : List UInt8) (ov : Bool) : kyF (nums [k] ++ rest, 0, ov) = (k, (rest, 0, ov)) := by
  unfold kyF
  rw [nt_good h0 (m := 63) (by omega) (by decide)]
  exact congrArg (fun x => (x, (rest, 0, ov))) (show ((k.toNat : Nat) : Int) = k by omega)
theorem kys_good (rest : List UInt8) (ov : Bool) : ∀ ks : List Int, (∀ k ∈ ks, 0 ≤ k ∧ k ≤ 63) → itG kyF ks.length (nums ks ++ rest, 0, ov) = (ks, (rest, 0, ov))
  | [], _ => rfl
  | k :: r, h => by
    have hk := h k (by simp)
    rw [List.length_cons, itG_cons, nums_cons, List.append_assoc, kyF_good hk.1 hk.2]
    simp only
    rw [kys_good rest ov r fun x hx => h x (by simp [hx])]
theorem keys_fit {ks : List Int} {n : Nat} (h : keysB ks n = true) (hn : n ≤ 64) : (∀ k ∈ ks, 0 ≤ k ∧ k ≤ 63) ∧ ks.length ≤ 64 := by
  obtain ⟨h1, h2⟩ := (keysB_iff ks n).1 h
  have hk : ∀ k ∈ ks, 0 ≤ k ∧ k ≤ 63 := fun k hk => by have := h1 k hk; omega
  refine ⟨hk, ?_⟩
  have h3 : (ks.map Int.toNat).Nodup := by
    rw [List.Nodup, List.pairwise_map]
    refine h2.imp_of_mem fun {a b} ha hb hab => ?_
    have := hk a ha
    have := hk b hb
    omega
  have h4 := len_le h3 (b := List.range 64) fun x hx => by
    obtain ⟨a, ha, rfl⟩ := List.mem_map.1 hx
    have := hk a ha
    rw [List.mem_range]
    omega
  simpa using h4
theorem kyR_good {ks : List Int} {n : Nat} (h : keysB ks n = true) (hn : n ≤ 64) (rest : List UInt8) (ov : Bool) : kyR (nums [((ks.length : Nat) : Int)] ++ (nums ks ++ rest), 0, ov) = (ks, (rest, 0, ov)) := by
  obtain ⟨h1, h2⟩ := keys_fit h hn
  unfold kyR
  rw [nt_good (by omega) (m := 64) (by omega) (by decide)]
  simp only
  rw [show ((ks.length : Nat) : Int).toNat = ks.length from Int.toNat_natCast _, kys_good rest ov ks h1]
theorem t24 {s : ByteArray} (h : s.size ≤ 24) (rest : List UInt8) (ov : Bool) : txtS 24 (tx s ++ rest, 0, ov) = (s, (rest, 0, ov)) := txt_good (m := 24) h (by decide) rest ov
theorem t300 {s : ByteArray} (h : s.size ≤ 300) (rest : List UInt8) (ov : Bool) : txtS 300 (tx s ++ rest, 0, ov) = (s, (rest, 0, ov)) := txt_good (m := 300) h (by decide) rest ov
theorem msgR_good {n : Nat} {m : Msg} (h : mmB n m = true) (hn : n ≤ 64) (rest : List UInt8) (ov : Bool) : msgR (msb m ++ rest, 0, ov) = (m, (rest, 0, ov)) := by
  obtain ⟨h1, h2, h3, h4, h5, h6, h7⟩ := PtD.mm_parts h
  unfold msgR msb flb
  rw [nums_cons, nums_cons m.mod, nums_cons m.flags]
  simp only [List.append_assoc]
  have t1 : m.id.size ≤ 24 := (atB_size h4).2
  rw [nt_good (by omega) (m := 1000000) (by omega) (by decide)]
  simp only
  rw [nt_good (by omega) (m := 1000000) (by omega) (by decide)]
  simp only
  rw [nt_good (by omega) (m := 1000000) (by omega) (by decide)]
  simp only
  rw [t24 t1]
  simp only
  rw [nt_good (by omega) (m := 1000000) (by omega) (by decide)]
  simp only
  rw [kyR_good h6 hn]
  simp only
  rw [t300 h7]
  obtain ⟨u, md, d, id, fl, ks, tx⟩ := m
  have e1 : ((u.toNat : Nat) : Int) = u := Int.toNat_of_nonneg (by show 0 ≤ u; have : 1 ≤ u := h1.1; omega)
  have e2 : ((md.toNat : Nat) : Int) = md := Int.toNat_of_nonneg (by show 0 ≤ md; have : 1 ≤ md := h2.1; omega)
  have e3 : ((d.toNat : Nat) : Int) = d := Int.toNat_of_nonneg h3.1
  have e4 : ((fl.toNat : Nat) : Int) = fl := Int.toNat_of_nonneg h5.1
  simp only [e1, e2, e3, e4]
/-- A row that its bytes tell, whatever is behind. -/
def Gd (r : Row) : Prop := ∀ (rest : List UInt8) (ov : Bool), roS (rob r ++ rest, 0, ov) = (r, (rest, 0, ov))
theorem rob_word (w : ByteArray) : rob (wRow w) = nums [4] ++ tx w := by
  unfold rob
  rw [if_neg (show ¬ (wRow w).kind = 1 from (by decide : ¬ (4 : Int) = 1)), if_neg (show ¬ (wRow w).kind = 2 from (by decide : ¬ (4 : Int) = 2)), if_neg (show ¬ ((wRow w).kind = 3 ∨ (wRow w).kind = 6) from (by decide : ¬ ((4 : Int) = 3 ∨ (4 : Int) = 6))), if_pos (show (wRow w).kind = 4 from rfl)]
  rfl
theorem gd_word {w : ByteArray} (h : w.size ≤ 24) : Gd (wRow w) := by
  intro rest ov
  rw [rob_word, List.append_assoc]
  unfold roS
  rw [nt_good (by decide) (m := 1000000) (by decide) (by decide)]
  rw [if_neg (show ¬ ((4 : Int).toNat = 1) by decide), if_neg (show ¬ ((4 : Int).toNat = 2) by decide), if_neg (show ¬ ((4 : Int).toNat = 3 ∨ (4 : Int).toNat = 6) by decide), if_pos (show (4 : Int).toNat = 4 by decide), t24 h]
  rfl
theorem rob_msg (m : Msg) : rob ⟨1, 0, 0, m, emT⟩ = nums [1] ++ msb m := by
  unfold rob
  rw [if_pos rfl]
theorem gd_msg {n : Nat} {m : Msg} (h : mmB n m = true) (hn : n ≤ 64) : Gd ⟨1, 0, 0, m, emT⟩ := by
  intro rest ov
  rw [rob_msg, List.append_assoc]
  unfold roS
  rw [nt_good (by decide) (m := 1000000) (by decide) (by decide)]
  rw [if_pos (show (1 : Int).toNat = 1 by decide), msgR_good h hn]
  rfl
theorem rob_ne (r : Row) : (rob r).length ≠ 0 := by
  unfold rob
  rw [List.length_append]
  have : 0 < (nums [r.kind]).length := by
    rw [nums_one]
    exact Lib.uvarint_pos _
  omega
theorem pr_all : ∀ (l acc : List Row) (f : Nat), (∀ r ∈ l, Gd r) → acc.length + l.length ≤ 200 → l.length < f → prR f acc (l.flatMap rob, 0, false) = (acc ++ l, 0)
  | [], acc, f + 1, _, _, _ => by
    unfold prR
    rw [if_pos (show (List.flatMap rob []).length = 0 from rfl), List.append_nil]
  | r :: l, acc, f + 1, h, hl, hf => by
    rw [List.length_cons] at hl hf
    unfold prR
    rw [List.flatMap_cons, if_neg (by show (rob r ++ _).length ≠ 0; rw [List.length_append]; have := rob_ne r; omega), if_neg (by omega), h r (by simp) _ false]
    simp only
    rw [if_pos (show firstS (l.flatMap rob, 0, false) = 0 from rfl), pr_all l (acc ++ [r]) f (fun x hx => h x (by simp [hx])) (by rw [List.length_append]; simp; omega) (by omega), List.append_assoc]
    rfl
theorem back_all {l : List Row} (h : ∀ r ∈ l, Gd r) (hl : l.length ≤ 200) : parseR (bytesR l) = (l, 0) := by
  have hb : l.all backR = true := by
    rw [List.all_eq_true]
    intro r hr
    unfold backR
    refine decide_eq_true ?_
    have := pr_all [r] [] 202 (fun x hx => by rw [List.mem_singleton] at hx; rw [hx]; exact h r hr) (by simp) (by simp)
    unfold parseR
    simpa using this
  unfold bytesR
  rw [if_neg (by omega), if_pos hb]
  have := pr_all l [] 202 h (by simpa using hl) (by omega)
  unfold parseR
  simpa using this
theorem add_back {b : Box} {date flags : Int} {id text : ByteArray} {words : List ByteArray} (h : addE b date id flags words text = 0) : (addL b date id flags words text).length ≤ 65 ∧ parseR (bytesR (addL b date id flags words text)) = (addL b date id flags words text, 0) := by
  obtain ⟨h1, h2, h3, h4, h5, h6, h7⟩ := addE_parts h
  obtain ⟨w1, w2⟩ := (wordsB_iff _).1 h2
  have hn : (newW b.words words).length ≤ 64 := by
    unfold allW at h4
    rw [List.length_append] at h4
    omega
  have hlen : (addL b date id flags words text).length ≤ 65 := by
    unfold addL
    simp only [List.length_append, List.length_map, List.length_cons, List.length_nil]
    omega
  refine ⟨hlen, back_all (fun r hr => ?_) (by omega)⟩
  unfold addL at hr
  rcases List.mem_append.1 hr with hr | hr
  · obtain ⟨w, hw, rfl⟩ := List.mem_map.1 hr
    exact gd_word (atB_size (w1 w ((newW_sub b.words words).subset hw))).2
  · rw [List.mem_singleton] at hr
    rw [hr]
    exact gd_msg h7 h4
end Go.Proofs.YtchlbbndfhibgaaGreatDoor.RdD

namespace Go.Proofs.YtchlbbndfhibgaaGreatDoor.RdF
open Go.RowKit Go.Proofs.YtchlbbndfhibgaaGreatDoor.BxD Go.Proofs.YtchlbbndfhibgaaGreatDoor.BxKit

/-- Few enough, or one that is too long for a word; or Few says so. -/
def Fw (n : Nat) (zs : List ByteArray) : Prop := n ≤ 100000 ∨ ∃ x ∈ zs, 24 < x.size
set_option maxHeartbeats 2000000 in
set_option maxRecDepth 100000 in
theorem few_some {A : Option Addr} {n cp B : Nat} {zs : List ByteArray} {w : World} (hz : StrsAt w B A n zs) (hf : Fw n zs) :
    Calls Tryz.prog 9 #[.slice A n cp] w fun e w' => ∃ r : Int, e = .returned (.int .i64 r) ∧ w = w' ∧ (Fw n zs ∨ (2000 < r ∧ r ≤ 1125899906842624)) := by
  have hn := hz.max
  have HZ := Lib.hid hz
  have HF := Lib.hid hf
  clear hz hf
  go_enter Tryz.func9, Tryz.ntmps9
  go_wp2_with fail
  go_loop [3, 10] (fun s3 s10 => ∃ (k : Nat) (m : Int), k ≤ n ∧ s10 = .int .i64 k ∧ s3 = .int .i64 m) (fun _ s10 => n - (intOf s10).toNat)
  case atStart => exact ⟨0, _, Nat.zero_le _, rfl, rfl⟩
  case round =>
    obtain ⟨k, m, hk, rfl, rfl⟩ := hrel
    by_cases hlt : k < n
    · obtain ⟨ad, x, rfl, hx, hc1⟩ := StrsAt.at_ HZ.out (Below.refl _ _) (Nat.le_refl _) hlt
      clear hx
      go_wp2_with fail
      go_round
      case rel => exact ⟨k + 1, _, by omega, by go_num, rfl⟩
      case measure => simp [intOf]; omega
    · obtain rfl : k = n := by omega
      go_wp2_with fail
      all_goals
        go_ret
        exact ⟨_, rfl, rfl, .inl HF.out⟩
set_option maxHeartbeats 2000000 in
set_option maxRecDepth 100000 in
theorem few_many {A : Option Addr} {n cp B : Nat} {zs : List ByteArray} {w : World} (hz : StrsAt w B A n zs) (hl : n ≤ 8796093022208) (hf : ¬ Fw n zs) :
    Calls Tryz.prog 9 #[.slice A n cp] w fun e w' => ∃ r : Int, e = .returned (.int .i64 r) ∧ w = w' ∧ (Fw n zs ∨ (2000 < r ∧ r ≤ 1125899906842624)) := by
  have h1 : 100000 < n := Classical.byContradiction fun h => hf (.inl (by omega))
  have h2 : ∀ x ∈ zs, x.size ≤ 24 := fun x hx => Classical.byContradiction fun h => hf (.inr ⟨x, hx, by omega⟩)
  have HZ := Lib.hid hz
  have H2 := Lib.hid h2
  clear hz hf h2
  go_enter Tryz.func9, Tryz.ntmps9
  go_wp2_with fail
  go_loop [3, 10] (fun s3 s10 => ∃ (k m : Nat), k ≤ n ∧ s10 = .int .i64 k ∧ s3 = .int .i64 m ∧ n ≤ m ∧ m ≤ n + k * 24) (fun _ s10 => n - (intOf s10).toNat)
  case atStart => exact ⟨0, n, Nat.zero_le _, rfl, rfl, Nat.le_refl _, Nat.le_refl _⟩
  case round =>
    obtain ⟨k, m, hk, rfl, rfl, hm1, hm2⟩ := hrel
    by_cases hlt : k < n
    · obtain ⟨ad, x, rfl, hx, hc1⟩ := StrsAt.at_ HZ.out (Below.refl _ _) (Nat.le_refl _) hlt
      have hs := H2.out x (List.mem_of_getElem? hx)
      clear hx
      go_wp2_with fail
      go_round
      case rel => exact ⟨k + 1, m + x.size, by omega, by go_num, by go_num, by omega, by omega⟩
      case measure => simp [intOf]; omega
    · obtain rfl : k = n := by omega
      have hb : 2000 < m := by omega
      go_wp2_with fail
      go_ret
      exact ⟨(m : Int), rfl, rfl, .inr (by omega)⟩
theorem few_any {A : Option Addr} {n cp B : Nat} {zs : List ByteArray} {w : World} (hz : StrsAt w B A n zs) (hl : n ≤ 8796093022208) :
    Calls Tryz.prog 9 #[.slice A n cp] w fun e w' => ∃ r : Int, e = .returned (.int .i64 r) ∧ w = w' ∧ (Fw n zs ∨ (2000 < r ∧ r ≤ 1125899906842624)) := by
  by_cases h : Fw n zs
  · exact few_some hz h
  · exact few_many hz hl h
end Go.Proofs.YtchlbbndfhibgaaGreatDoor.RdF
