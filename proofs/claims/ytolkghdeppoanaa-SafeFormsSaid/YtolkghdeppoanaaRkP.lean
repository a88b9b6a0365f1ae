/-
  Names compared; the place of a name among files; what files cost; bytes told again.
-/
import Derived.Test.YtolkghdeppoanaaRkK
import Derived.Deep.LoopGhost
import Derived.Deep.DeepCutAuto
import Derived.WalkLawsBesides
import Derived.Outline
set_option linter.unusedVariables false
set_option linter.unusedSimpArgs false
namespace Go.Proofs.Ytolkghdeppoanaa.RkP
open Go.RowKit Go.Proofs.Ytolkghdeppoanaa.BxD Go.Proofs.Ytolkghdeppoanaa.BxKit Go.Proofs.Ytolkghdeppoanaa.RkO Go.Proofs.Ytolkghdeppoanaa.RkC Go.Proofs.Ytolkghdeppoanaa.RkD Go.Proofs.Ytolkghdeppoanaa.RkR Go.Proofs.Ytolkghdeppoanaa.RkK

set_option maxRecDepth 100000 in
theorem below_alloc (w : World) (o : Obj) : Below w.heap.size w (w.alloc o) := (Below.refl _ _).alloc (Nat.le_refl _) o
set_option maxRecDepth 100000 in
theorem below_none {w w' : World} (h : w.grownBy w' none) : Below w.heap.size w w' := ⟨h.os, h.tape, h.output, h.size, fun k hk => h.block k hk (by simp)⟩

set_option maxRecDepth 100000 in
theorem cmpstr (a b : ByteArray) (w : World) : Calls Try.prog 88 #[.string a, .string b] w fun e w' => e = .returned (.int .i64 (cmpS a b)) ∧ w' = w := by
  rw [← cmp_cb]
  go_enter Try.func88, Try.ntmps88
  go_wp2
  rw [run_callFunc_extern Try.func101 (by kernel_rfl) (by kernel_rfl) (by kernel_rfl) (e := Extern.BytealgCompare.compare) (by kernel_rfl), Lib.run_compareString]
  simp only [Result.andThen]
  rw [Oper.upon_value]
  go_wp2
  go_ret
  exact ⟨rfl, rfl⟩
set_option maxRecDepth 100000 in
theorem compare (a b : ByteArray) (w : World) : Calls Try.prog 81 #[.string a, .string b] w fun e w' => e = .returned (.int .i64 (cmpS a b)) ∧ w' = w := by
  go_enter Try.func81, Try.ntmps81
  go_wp2_with (go_at_call 88; refine (cmpstr _ _ _).mono ?_; rintro e w' ⟨rfl, rfl⟩)
  go_ret
  exact ⟨rfl, rfl⟩
set_option maxRecDepth 100000 in
set_option maxHeartbeats 400000 in
theorem closure (a k : ByteArray) (v : Value) (_h1 : v.oneCell' = true) (w : World) : Calls Try.prog 80 #[.agg #[.string a, v], .string k] w fun e w' => e = .returned (.int .i64 (cmpS a k)) ∧ Below w.heap.size w w' := by
  go_enter Try.func80, Try.ntmps80
  go_wp2_with (go_at_call 81; refine (compare _ _ _).mono ?_; rintro e w' ⟨rfl, rfl⟩)
  go_ret
  exact ⟨rfl, below_alloc _ _⟩

def Inv (k : ByteArray) (ps : List F) (lw hi : Nat) : Prop := (∀ j p, j < lw → ps[j]? = some p → cmpS p.1 k < 0) ∧ (∀ j p, hi ≤ j → ps[j]? = some p → ¬ cmpS p.1 k < 0)
set_option maxRecDepth 100000 in
theorem Inv.up {k : ByteArray} {ps : List F} {lw hi m : Nat} (hs : SrtF ps) (h : Inv k ps lw hi) (p : F) (hp : ps[m]? = some p) (hc : cmpS p.1 k < 0) : Inv k ps (m + 1) hi := by
  refine ⟨fun j q hj hq => ?_, h.2⟩
  rcases Nat.lt_or_eq_of_le (Nat.le_of_lt_succ hj) with hlt | rfl
  · have hjl := (List.getElem?_eq_some_iff.1 hq)
    have hml := (List.getElem?_eq_some_iff.1 hp)
    have := List.pairwise_iff_getElem.1 hs j m hjl.1 hml.1 hlt
    rw [hjl.2, hml.2] at this
    exact ordS.trans _ _ _ this hc
  · rw [hp] at hq; injection hq with hq; subst hq; exact hc
set_option maxRecDepth 100000 in
theorem Inv.dn {k : ByteArray} {ps : List F} {lw hi m : Nat} (hs : SrtF ps) (h : Inv k ps lw hi) (p : F) (hp : ps[m]? = some p) (hc : ¬ cmpS p.1 k < 0) : Inv k ps lw m := by
  refine ⟨h.1, fun j q hj hq => ?_⟩
  rcases Nat.lt_or_eq_of_le hj with hlt | rfl
  · have hjl := (List.getElem?_eq_some_iff.1 hq)
    have hml := (List.getElem?_eq_some_iff.1 hp)
    have := List.pairwise_iff_getElem.1 hs m j hml.1 hjl.1 hlt
    rw [hjl.2, hml.2] at this
    exact fun h2 => hc (ordS.trans _ _ _ this h2)
  · rw [hp] at hq; injection hq with hq; subst hq; exact hc
set_option maxRecDepth 100000 in
theorem Inv.start (k : ByteArray) (ps : List F) : Inv k ps 0 ps.length :=
  ⟨fun j p hj _ => absurd hj (Nat.not_lt_zero j), fun j p hj hp => absurd (List.getElem?_eq_some_iff.1 hp).1 (by omega)⟩
set_option maxRecDepth 100000 in
theorem Inv.eq {k : ByteArray} {ps : List F} {i : Nat} (h : Inv k ps i i) (hi : i ≤ ps.length) : lo cmpS k ps = i :=
  lo_eq cmpS k ps i hi h.1 (fun p hp => h.2 i p (Nat.le_refl _) hp)

/-- Where a name stands, and whether it is there. -/
def PlPost (k : ByteArray) (ps : List F) (w : World) (e : Ending) (w' : World) : Prop := e = .returned (.tuple #[.int .i64 (lo cmpS k ps : Nat), .bool (hitF k ps)]) ∧ Below w.heap.size w w'
set_option maxRecDepth 100000 in
set_option maxHeartbeats 1000000 in
theorem bsf {A : Option Addr} {n cap : Nat} (k : ByteArray) {w : World} {ps : List F} (hn : n ≤ 100000) (hs : SrtF ps) (hr : FilesT w A n ps) :
    Calls Try.prog 79 #[.slice A n cap, .string k, .func (.func 80) #[] #[]] w (PlPost k ps w) := by
  have hl := hr.len
  have HC := Lib.hid hr
  have HS := Lib.hid hs
  have I0 := Lib.hid (show Inv k ps 0 n by rw [← hl]; exact Inv.start k ps)
  have HN := Lib.hid (Below.refl w.heap.size w)
  have HL := Lib.hid hl
  clear hs hr hl
  go_enter Try.func79, Try.ntmps79
  go_wp2
  go_loopg [9, 10] n (fun kx s9 s10 wr => ∃ lw hi : Nat, s9 = .int .i64 lw ∧ s10 = .int .i64 hi ∧ lw ≤ hi ∧ hi ≤ n ∧ hi - lw ≤ kx ∧ Hid (Below w.heap.size w wr) ∧ Hid (Inv k ps lw hi))
  case atStart => exact ⟨0, n, rfl, rfl, Nat.zero_le _, Nat.le_refl _, by omega, HN, I0⟩
  case round =>
    clear HN I0
    obtain ⟨lw, hi, rfl, rfl, hlh, hin, hg, hb, hI⟩ := hrel
    have HK := Lib.hid (Kp.below hb.out (Nat.le_refl _))
    by_cases hlt : lw < hi
    · obtain ⟨ad, x, K, kd, kc, rfl, hp, hc1, hc2, _, _⟩ := HC.out.sp HK.out (j := (lw + hi) / 2) (by omega)
      have HP := Lib.hid hp
      clear hp HK
      by_cases hyx : cmpS x k < 0
      · have hyd : decide (cmpS x k < 0) = true := by simpa using hyx
        go_wp2_with (go_at_call 80; refine (closure _ _ _ rfl _).mono ?_; rintro e w1 ⟨rfl, hb1⟩; have hbb := Lib.hid (hb.out.trans (hb1.mono hb.out.size)); clear hb1)
        go_roundg (hi - ((lw + hi) / 2 + 1))
        case measure => omega
        case rel =>
          exact ⟨(lw + hi) / 2 + 1, hi, by rw [show ((lw : Int) + (hi : Int)) / 2 + 1 = (((lw + hi) / 2 + 1 : Nat) : Int) by omega], rfl, by omega, hin, Nat.le_refl _, hbb, Inv.up HS.out hI.out _ HP.out hyx⟩
      · have hyd : decide (cmpS x k < 0) = false := by simpa using hyx
        go_wp2_with (go_at_call 80; refine (closure _ _ _ rfl _).mono ?_; rintro e w1 ⟨rfl, hb1⟩; have hbb := Lib.hid (hb.out.trans (hb1.mono hb.out.size)); clear hb1)
        go_roundg ((lw + hi) / 2 - lw)
        case measure => omega
        case rel =>
          exact ⟨lw, (lw + hi) / 2, rfl, by rw [show ((lw : Int) + (hi : Int)) / 2 = (((lw + hi) / 2 : Nat) : Int) by omega], by omega, by omega, Nat.le_refl _, hbb, Inv.dn HS.out hI.out _ HP.out (show ¬ cmpS x k < 0 by omega)⟩
    · obtain rfl : hi = lw := by omega
      have hlo := Inv.eq hI.out (by rw [HL.out]; exact hin)
      by_cases hn2 : hi < n
      · obtain ⟨ad, x, K, kd, kc, rfl, hp, hc1, hc2, _, _⟩ := HC.out.sp HK.out (j := hi) hn2
        have hfin : hitF k ps = decide (cmpS x k = 0) := by unfold hitF hit; rw [hlo, hp]
        have HF := Lib.hid hfin
        have HLO := Lib.hid hlo
        clear hp hfin hlo HK
        go_wp2_with (go_at_call 80; refine (closure _ _ _ rfl _).mono ?_; rintro e w1 ⟨rfl, hb1⟩; have hbb := Lib.hid (hb.out.trans (hb1.mono hb.out.size)); clear hb1)
        go_ret2
        exact ⟨by rw [HF.out, HLO.out]; rfl, hbb.out⟩
      · have hfin : hitF k ps = false := by unfold hitF hit; rw [hlo, List.getElem?_eq_none (by rw [HL.out]; omega)]
        have HF := Lib.hid hfin
        have HLO := Lib.hid hlo
        clear hfin hlo HK
        go_wp2
        go_ret2
        exact ⟨by rw [HF.out, HLO.out]; simp, hb.out⟩
set_option maxRecDepth 100000 in
set_option maxHeartbeats 400000 in
theorem place_any {A : Option Addr} {n cap : Nat} (k : ByteArray) {w : World} {ps : List F} (hn : n ≤ 100000) (hs : SrtF ps) (hr : FilesT w A n ps) :
    Calls Try.prog 61 #[.slice A n cap, .string k] w (PlPost k ps w) := by
  have K := Lib.hid (bsf (cap := cap) k hn hs hr)
  clear hn hs hr
  go_enter Try.func61, Try.ntmps61
  go_wp2_with (go_at_call 79; refine K.out.mono ?_; rintro e w' ⟨rfl, hb⟩)
  go_ret2
  exact ⟨rfl, hb⟩

set_option maxRecDepth 100000 in
set_option maxHeartbeats 400000 in
theorem mayName_any (s : ByteArray) (w : World) : Calls Try.prog 64 #[.string s] w fun e w' => e = .returned (.bool (okN s)) ∧ w = w' := by
  by_cases h0 : s.size = 0
  · have hb : okN s = false := decide_eq_false (by omega)
    have hem : s = ⟨#[]⟩ := by
      cases s with | mk d => simp [ByteArray.size] at h0; rw [h0]
    rw [hb]
    subst hem
    go_enter Try.func64, Try.ntmps64
    go_wp2
    go_ret
    exact ⟨rfl, rfl⟩
  · have hne : (s.toList == (ByteArray.mk #[]).toList) = false := by
      rw [ByteArray.toList_eq, ByteArray.toList_eq]
      cases s with | mk d => simpa [ByteArray.size] using h0
    by_cases h1 : s.size ≤ 24
    · have hb : okN s = true := decide_eq_true (by omega)
      rw [hb]
      go_enter Try.func64, Try.ntmps64
      go_wp2
      all_goals (go_ret; exact ⟨by simp_all <;> omega, rfl⟩)
    · have hb : okN s = false := decide_eq_false (by omega)
      rw [hb]
      go_enter Try.func64, Try.ntmps64
      go_wp2
      all_goals (go_ret; exact ⟨by simp_all <;> omega, rfl⟩)

set_option maxRecDepth 100000 in
set_option maxHeartbeats 1000000 in
theorem costs_any {A : Option Addr} {n cap : Nat} {w : World} {ps : List F} (hn : n ≤ 100000) (hz : ∀ f ∈ ps, f.1.size ≤ 24 ∧ f.2.length ≤ 200000) (hr : FilesT w A n ps) :
    Calls Try.prog 65 #[.slice A n cap] w fun e w' => e = .returned (.int .i64 (costs ps : Nat)) ∧ Below w.heap.size w w' := by
  have hl := hr.len
  have HC := Lib.hid hr
  have HZ := Lib.hid hz
  have HL := Lib.hid hl
  clear hz hr hl
  go_enter Try.func65, Try.ntmps65
  go_wp2
  go_loopw [8, 3] (fun s8 s3 wr => ∃ k q : Nat, k ≤ n ∧ s8 = .int .i64 k ∧ s3 = .int .i64 q ∧ Hid (q = costs (ps.take k)) ∧ q ≤ k * 200032 ∧ Hid (Below w.heap.size w wr)) (fun s8 _ _ => n - (intOf s8).toNat)
  case atStart => exact ⟨0, 0, Nat.zero_le _, rfl, rfl, by simp [costs, Hid], by omega, Lib.hid (Below.refl _ _)⟩
  case round =>
    obtain ⟨k, q, hk, rfl, rfl, HQ, hq, hb⟩ := hrel
    by_cases hlt : k < n
    · obtain ⟨ad, x, K, kd, kc, rfl, hp, hc1, hc2, hle, _⟩ := HC.out.sp (Kp.below hb.out (Nat.le_refl _)) (j := k) hlt
      have HP := Lib.hid (costs_take hp)
      obtain ⟨z1, z2⟩ := HZ.out _ (List.mem_of_getElem? hp)
      have hbb := Lib.hid ((hb.out.alloc hb.out.size (.cells #[.string x, .slice K kd.length kc] 44)))
      have hz1 : x.size ≤ 24 := z1
      have hz2 : kd.length ≤ 200000 := z2
      obtain ⟨m, hm⟩ : ∃ m, m = kd.length := ⟨_, rfl⟩
      rw [← hm] at hc2 hz2 hle hbb
      have HM := Lib.hid hm
      clear hp z1 z2 hm
      go_wp2
      go_roundw
      case measure => simp [intOf]; omega
      case rel => exact ⟨k + 1, q + (x.size + m + 8), by omega, by go_num, by simp <;> omega, Lib.hid (by rw [HP.out, HQ.out, HM.out]), by omega, hbb⟩
    · obtain rfl : k = n := by omega
      have HQ2 := Lib.hid (show q = costs ps by have h := HQ.out; rw [List.take_of_length_le (by rw [HL.out]; exact Nat.le_refl _)] at h; exact h)
      go_wp2
      go_ret
      exact ⟨by rw [HQ2.out]; rfl, hb.out⟩

/-- Bytes told again: data of a file. -/
def ClB (d : List UInt8) (w : World) (e : Ending) (w' : World) : Prop := ∃ A c, e = .returned (.slice A d.length c) ∧ d.length ≤ c ∧ ByT w' A d.length d ∧ Below w.heap.size w w'
set_option maxRecDepth 100000 in
set_option maxHeartbeats 1000000 in
theorem clone_any {A : Option Addr} {n cap B : Nat} {d : List UInt8} {w : World} (hd : PkKit.BytesAt w B A n d) (hB : B ≤ w.heap.size) (hn : n ≤ 100000000) : Calls Try.prog 47 #[.slice A n cap] w (ClB d w) := by
  have hl := hd.1
  cases A with
  | none =>
    have h0 : n = 0 := by
      rcases Nat.eq_zero_or_pos n with h | h
      · exact h
      · obtain ⟨ad, e, _⟩ := hd.2 h; cases e
    have hd0 : d = [] := List.eq_nil_of_length_eq_zero (by omega)
    subst h0
    subst hd0
    have hnil : ∀ w, (binOp .eql 23 (.slice none 0 cap) (.slice none 0 0)).run Try.prog w = .ok (.bool true) w := fun w => by kernel_rfl
    clear hd
    go_enter Try.func47, Try.ntmps47
    go_wp2
    go_ret
    exact ⟨none, 0, rfl, Nat.le_refl _, ByT.nil _ _, Below.refl _ _⟩
  | some ad =>
    have hnil : ∀ w, (binOp .eql 23 (.slice (some ad) n cap) (.slice none 0 0)).run Try.prog w = .ok (.bool false) w := fun w => by kernel_rfl
    have HS := Lib.hid (hd.alloc hB (.cells #[] 5))
    have HO : Hid ((w.alloc (.cells #[] 5)).ownsRow w.heap.size 5 1 (.slice (some ⟨w.heap.size, 0, none⟩) 0 0) 0 (PkKit.by_ [])) := Lib.hid (World.ownsRow_lit w #[] 0 (Nat.le_refl _) (by decide) rfl)
    have HL := Lib.hid hl
    clear hd hl
    go_enter Try.func47, Try.ntmps47
    go_wp2_with (at_builtin; go_loud (
       refine PkKit.wpList_by rfl _ _ rfl rfl rfl HO.out HS.out (by omega) (by simp) ?_
       intro v1 w1 hown hg _
       rw [Nat.zero_add] at hown
       obtain ⟨A1, k1, rfl, hk1⟩ := RkR.own_slice hown
       have HT := Lib.hid (byT_own (d := d) (by simpa [PkKit.by_, Lib.byteCells] using hown))
       have HB := Lib.hid ((below_alloc w (.cells #[] 5)).grown hg (by simp) (fun g e => by have e2 : w.heap.size = g := Option.some.inj e; omega))
       clear hown hg))
    go_ret
    have h := HT.out
    have hl := HL.out
    subst hl
    exact ⟨A1, k1, rfl, hk1, h, HB.out⟩
end Go.Proofs.Ytolkghdeppoanaa.RkP
