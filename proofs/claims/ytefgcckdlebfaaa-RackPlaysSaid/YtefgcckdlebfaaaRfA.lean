/-
  The document's files: put and cut on sorted lists; named, cost, Costs, at.
-/
import Derived.Test.YtefgcckdlebfaaaRkE
namespace Go.Proofs.Ytefgcckdlebfaaa.RfA
open Go.RowKit Go.Proofs.Ytefgcckdlebfaaa.BxD Go.Proofs.Ytefgcckdlebfaaa.BxKit Go.Proofs.Ytefgcckdlebfaaa.RkO Go.Proofs.Ytefgcckdlebfaaa.RkC Go.Proofs.Ytefgcckdlebfaaa.RkD Go.Proofs.Ytefgcckdlebfaaa.RkR Go.Proofs.Ytefgcckdlebfaaa.RkK Go.Proofs.Ytefgcckdlebfaaa.RkP Go.Proofs.Ytefgcckdlebfaaa.RkQ Go.Proofs.Ytefgcckdlebfaaa.RkE

/-- Is a behind b, or b itself? -/
def ge (a b : ByteArray) : Bool := !Op.bytesLess a.toList b.toList
theorem ge_iff {a b : ByteArray} : ge a b = true ↔ ¬ cmpS a b < 0 := by
  unfold ge
  rw [cmpS_neg]
  cases Op.bytesLess a.toList b.toList <;> simp
theorem beqN (a b : ByteArray) : (a.toList == b.toList) = decide (a = b) := by
  by_cases h : a = b
  · subst h; rw [decide_eq_true rfl]; exact beq_self_eq_true _
  · rw [decide_eq_false h]
    exact beq_eq_false_iff_ne.2 fun e => h (ba_ext e)
/-- What is still to come of a put. -/
def rp (n : ByteArray) (d : List UInt8) : List F → Bool → List F
  | [], dn => if dn then [] else [(n, d)]
  | f :: r, dn => (if !dn && ge f.1 n then [(n, d)] else []) ++ ((if decide (f.1 = n) then [] else [f]) ++ rp n d r (dn || ge f.1 n))
theorem rp_true {n : ByteArray} {d : List UInt8} : ∀ {r : List F}, (∀ g ∈ r, g.1 ≠ n) → rp n d r true = r
  | [], _ => rfl
  | f :: r, h => by
    unfold rp
    rw [decide_eq_false (h f (List.mem_cons_self ..)), Bool.true_or, rp_true fun g hg => h g (List.mem_cons_of_mem _ hg)]
    simp
theorem srt_ne {f : F} {r : List F} {n : ByteArray} (hs : SrtF (f :: r)) (h : ¬ cmpS f.1 n < 0) : ∀ g ∈ r, g.1 ≠ n := fun g hg e => by
  have := (List.pairwise_cons.1 hs).1 g hg
  rw [e] at this
  exact h this
theorem lo_up {f : F} {r : List F} {n : ByteArray} (h : cmpS f.1 n < 0) : lo cmpS n (f :: r) = lo cmpS n r + 1 := by
  refine lo_eq cmpS n (f :: r) _ (by have := lo_le cmpS n r; simp; omega) ?_ ?_
  · intro j p hj hp
    cases j with
    | zero => obtain rfl : f = p := by simpa using hp
              exact h
    | succ j => exact lo_below cmpS n r j p (by omega) (by simpa using hp)
  · intro p hp
    exact lo_at cmpS n r p (by simpa using hp)
theorem lo_here {f : F} {r : List F} {n : ByteArray} (h : ¬ cmpS f.1 n < 0) : lo cmpS n (f :: r) = 0 :=
  lo_eq cmpS n (f :: r) 0 (Nat.zero_le _) (fun j p hj => absurd hj (Nat.not_lt_zero _)) fun p hp => by
    obtain rfl : f = p := by simpa using hp
    exact h
theorem hit_up {f : F} {r : List F} {n : ByteArray} (h : cmpS f.1 n < 0) : hitF n (f :: r) = hitF n r := by
  unfold hitF hit
  rw [lo_up h, List.getElem?_cons_succ]
theorem hit_here {f : F} {r : List F} {n : ByteArray} (h : ¬ cmpS f.1 n < 0) : hitF n (f :: r) = decide (f.1 = n) := by
  unfold hitF hit
  rw [lo_here h]
  by_cases e : f.1 = n
  · simp [e, (ordS.eq0 n n).2 rfl]
  · simp [e, show ¬ cmpS f.1 n = 0 from fun h => e ((ordS.eq0 _ _).1 h)]
theorem rp_put {n : ByteArray} {d : List UInt8} : ∀ {l : List F}, SrtF l → rp n d l false = putF n d l
  | [], _ => by unfold rp putF put; simp [hit, lo, ins]
  | f :: r, hs => by
    have hr : SrtF r := (List.pairwise_cons.1 hs).2
    by_cases h : cmpS f.1 n < 0
    · have hg : ge f.1 n = false := by
        cases hg : ge f.1 n with
        | false => rfl
        | true => exact absurd h (ge_iff.1 hg)
      have hn : f.1 ≠ n := fun e => by
        rw [e, (ordS.eq0 n n).2 rfl] at h
        exact absurd h (by decide)
      unfold rp
      rw [hg, decide_eq_false hn, Bool.or_false, rp_put hr]
      have hh := hit_up (r := r) h
      unfold putF put
      rw [show hit cmpS n (f :: r) = hit cmpS n r from hh]
      unfold upd ins
      rw [lo_up h]
      cases hit cmpS n r <;> simp
    · have hg := ge_iff.2 h
      unfold rp
      rw [hg, Bool.false_or, rp_true (srt_ne hs h)]
      unfold putF put
      rw [show hit cmpS n (f :: r) = decide (f.1 = n) from hit_here h]
      unfold upd ins
      rw [lo_here h]
      by_cases e : f.1 = n <;> simp [e]
/-- What is still to come of a cut. -/
def rc (n : ByteArray) (l : List F) : List F := l.filter fun f => !decide (f.1 = n)
theorem rc_cut {n : ByteArray} : ∀ {l : List F}, SrtF l → rc n l = cutF n l
  | [], _ => by unfold rc cutF cut; simp [hit, lo]
  | f :: r, hs => by
    have hr : SrtF r := (List.pairwise_cons.1 hs).2
    by_cases h : cmpS f.1 n < 0
    · have hn : f.1 ≠ n := fun e => by
        rw [e, (ordS.eq0 n n).2 rfl] at h
        exact absurd h (by decide)
      have ih := rc_cut (n := n) hr
      unfold rc at ih ⊢
      rw [List.filter_cons_of_pos (by simpa using hn), ih]
      unfold cutF cut
      rw [show hit cmpS n (f :: r) = hit cmpS n r from hit_up h, lo_up h]
      cases hit cmpS n r <;> simp
    · have hr0 : rc n r = r := List.filter_eq_self.2 fun g hg => by simpa using srt_ne hs h g hg
      unfold rc at hr0 ⊢
      unfold cutF cut
      rw [show hit cmpS n (f :: r) = decide (f.1 = n) from hit_here h, lo_here h]
      by_cases e : f.1 = n
      · rw [List.filter_cons_of_neg (by simpa using e), hr0]; simp [e]
      · rw [List.filter_cons_of_pos (by simpa using e), hr0]; simp [e]
theorem at_hit {n : ByteArray} {l : List F} {k : Nat} {f : F} (hs : SrtF l) (h : l[k]? = some f) (e : f.1 = n) : hitF n l = true ∧ lo cmpS n l = k := by
  have hk : k < l.length := (List.getElem?_eq_some_iff.1 h).1
  have hl : lo cmpS n l = k := by
    refine lo_eq cmpS n l k (by omega) (fun j p hj hp => ?_) fun p hp => ?_
    · obtain ⟨h1, e1⟩ := List.getElem?_eq_some_iff.1 hp
      obtain ⟨h2, e2⟩ := List.getElem?_eq_some_iff.1 h
      have := (List.pairwise_iff_getElem.1 hs) j k h1 h2 hj
      rw [e1, e2, e] at this
      exact this
    · rw [h] at hp
      obtain rfl := Option.some.inj hp
      rw [e, (ordS.eq0 n n).2 rfl]
      decide
  refine ⟨?_, hl⟩
  unfold hitF hit
  rw [hl, h]
  exact decide_eq_true ((ordS.eq0 _ _).2 e)
theorem at_miss {n : ByteArray} {l : List F} (h : ∀ f ∈ l, f.1 ≠ n) : hitF n l = false := by
  unfold hitF hit
  cases e : l[lo cmpS n l]? with
  | none => rfl
  | some f => exact decide_eq_false fun e2 => h f (List.mem_of_getElem? e) ((ordS.eq0 _ _).1 e2)
/-- Where a file lies, or -1. -/
def atI (n : ByteArray) (l : List F) : Int := if hitF n l then (lo cmpS n l : Nat) else -1

set_option maxHeartbeats 400000 in
theorem named_any (s : ByteArray) (w : World) : Calls Try.prog 38 #[.string s] w fun e w' => e = .returned (.bool (okN s)) ∧ w = w' := by
  by_cases h0 : 1 ≤ s.size
  · have hd0 : decide ((1 : Int) ≤ (s.size : Int)) = true := decide_eq_true (by omega)
    by_cases h1 : s.size ≤ 24
    · have hd1 : decide ((s.size : Int) ≤ 24) = true := decide_eq_true (by omega)
      rw [show okN s = true from decide_eq_true ⟨h0, h1⟩]
      go_enter Try.func38, Try.ntmps38
      go_wp2
      all_goals (go_ret; exact ⟨by simp_all <;> omega, rfl⟩)
    · have hd1 : decide ((s.size : Int) ≤ 24) = false := decide_eq_false (by omega)
      rw [show okN s = false from decide_eq_false fun h => h1 h.2]
      go_enter Try.func38, Try.ntmps38
      go_wp2
      all_goals (go_ret; exact ⟨by simp_all <;> omega, rfl⟩)
  · have hd0 : decide ((1 : Int) ≤ (s.size : Int)) = false := decide_eq_false (by omega)
    rw [show okN s = false from decide_eq_false fun h => h0 h.1]
    go_enter Try.func38, Try.ntmps38
    go_wp2
    all_goals (go_ret; exact ⟨by simp_all <;> omega, rfl⟩)
set_option maxHeartbeats 400000 in
theorem cost_any (x : ByteArray) (K : Option Addr) (m kc : Nat) (w : World) (hx : x.size ≤ 1000000) (hm : m ≤ 100000000) : Calls Try.prog 47 #[.string x, .slice K m kc] w fun e w' => e = .returned (.int .i64 ((x.size + m + 8 : Nat) : Int)) ∧ w = w' := by
  go_enter Try.func47, Try.ntmps47
  go_wp2
  go_ret
  exact ⟨by simp <;> omega, rfl⟩
set_option maxHeartbeats 1000000 in
theorem costs_any {A : Option Addr} {n cap : Nat} {w : World} {ps : List F} (hn : n ≤ 100000) (hz : ∀ f ∈ ps, f.1.size ≤ 24 ∧ f.2.length ≤ 200000) (hr : FilesT w A n ps) :
    Calls Try.prog 40 #[.slice A n cap] w fun e w' => e = .returned (.int .i64 (costs ps : Nat)) ∧ Below w.heap.size w w' := by
  have hl := hr.len
  have HC := Lib.hid hr
  have HZ := Lib.hid hz
  have HL := Lib.hid hl
  clear hz hr hl
  go_enter Try.func40, Try.ntmps40
  go_wp2
  go_loopw [8, 3] (fun s8 s3 wr => ∃ k q : Nat, k ≤ n ∧ s8 = .int .i64 k ∧ s3 = .int .i64 q ∧ Hid (q = costs (ps.take k)) ∧ q ≤ k * 200032 ∧ Hid (Below w.heap.size w wr)) (fun s8 _ _ => n - (intOf s8).toNat)
  case atStart => exact ⟨0, 0, Nat.zero_le _, rfl, rfl, by simp [costs, Hid], by omega, Lib.hid (Below.refl _ _)⟩
  case round =>
    obtain ⟨k, q, hk, rfl, rfl, HQ, hq, hb⟩ := hrel
    by_cases hlt : k < n
    · obtain ⟨ad, x, K, kd, kc, rfl, hp, hc1, hc2, hle, _⟩ := HC.out.sp (Kp.below hb.out (Nat.le_refl _)) (j := k) hlt
      have HP := Lib.hid (costs_take hp)
      obtain ⟨z1, z2⟩ := HZ.out _ (List.mem_of_getElem? hp)
      have hbb := Lib.hid ((hb.out.alloc hb.out.size (.cells #[.string x, .slice K kd.length kc] 50)))
      have hz1 : x.size ≤ 24 := z1
      have hz2 : kd.length ≤ 200000 := z2
      obtain ⟨m, hm⟩ : ∃ m, m = kd.length := ⟨_, rfl⟩
      rw [← hm] at hc2 hz2 hle hbb
      have HM := Lib.hid hm
      have KC := fun w => cost_any x K m kc w (by omega) (by omega)
      clear hp z1 z2 hm
      go_wp2_with (go_at_call 47; go_loud (refine (KC _).mono ?_; rintro e wq ⟨rfl, rfl⟩))
      go_roundw
      case measure => simp [intOf]; omega
      case rel => exact ⟨k + 1, q + (x.size + m + 8), by omega, by go_num, by simp <;> omega, Lib.hid (by rw [HP.out, HQ.out, HM.out]), by omega, hbb⟩
    · obtain rfl : k = n := by omega
      have HQ2 := Lib.hid (show q = costs ps by have h := HQ.out; rw [List.take_of_length_le (by rw [HL.out]; exact Nat.le_refl _)] at h; exact h)
      go_wp2
      go_ret
      exact ⟨by rw [HQ2.out]; rfl, hb.out⟩
set_option maxHeartbeats 1000000 in
theorem at_any {A : Option Addr} {n cap : Nat} {w : World} {ps : List F} (k0 : ByteArray) (hn : n ≤ 100000) (hs : SrtF ps) (hr : FilesT w A n ps) :
    Calls Try.prog 43 #[.slice A n cap, .string k0] w fun e w' => e = .returned (.int .i64 (atI k0 ps)) ∧ Below w.heap.size w w' := by
  have HC := Lib.hid hr
  have HS := Lib.hid hs
  clear hr hs
  go_enter Try.func43, Try.ntmps43
  go_upto_region 2 with fail
  go_loopw [9] (fun s9 wr => ∃ k : Nat, k ≤ n ∧ s9 = .int .i64 k ∧ Hid (∀ j f, j < k → ps[j]? = some f → f.1 ≠ k0) ∧ Hid (Below w.heap.size w wr)) (fun s9 _ => n - (intOf s9).toNat)
  case atStart => exact ⟨0, Nat.zero_le _, rfl, Lib.hid (fun j f hj => absurd hj (Nat.not_lt_zero _)), Lib.hid (Below.refl _ _)⟩
  case round =>
    obtain ⟨k, hk, rfl, HQ, hb⟩ := hrel
    by_cases hlt : k < n
    · obtain ⟨ad, x, K, kd, kc, rfl, hp, hc1, hc2, hle, _⟩ := HC.out.sp (Kp.below hb.out (Nat.le_refl _)) (j := k) hlt
      have HP := Lib.hid hp
      have hbb := Lib.hid ((hb.out.alloc hb.out.size (.cells #[.string x, .slice K kd.length kc] 50)))
      obtain ⟨m, hm⟩ : ∃ m, m = kd.length := ⟨_, rfl⟩
      rw [← hm] at hc2 hbb hle
      clear hp hm
      by_cases he : x = k0
      · have hq : (x.toList == k0.toList) = true := by rw [beqN]; exact decide_eq_true he
        have HA := Lib.hid (show ((k : Nat) : Int) = atI k0 ps by
          obtain ⟨h1, h2⟩ := at_hit HS.out HP.out he
          unfold atI
          rw [h1, h2, if_pos rfl])
        clear he
        go_wp2
        go_ret
        exact ⟨by rw [← HA.out]; rfl, hbb.out⟩
      · have hq : (x.toList == k0.toList) = false := by rw [beqN]; exact decide_eq_false he
        have HE := Lib.hid he
        clear he
        go_wp2
        go_roundw
        case measure => simp [intOf]; omega
        case rel =>
          refine ⟨k + 1, by omega, by go_num, Lib.hid (fun j f hj hf => ?_), hbb⟩
          rcases Nat.lt_or_ge j k with h | h
          · exact HQ.out j f h hf
          · obtain rfl : j = k := by omega
            rw [HP.out] at hf
            obtain rfl := Option.some.inj hf
            exact HE.out
    · obtain rfl : k = n := by omega
      have HA := Lib.hid (show (-1 : Int) = atI k0 ps by
        unfold atI
        rw [at_miss fun f hf => ?_]
        · rfl
        · obtain ⟨j, hj⟩ := List.mem_iff_getElem?.1 hf
          exact HQ.out j f (by rw [← HC.out.len]; exact (List.getElem?_eq_some_iff.1 hj).1) hj)
      go_wp2
      go_ret
      exact ⟨by rw [← HA.out]; rfl, hb.out⟩
end Go.Proofs.Ytefgcckdlebfaaa.RfA
