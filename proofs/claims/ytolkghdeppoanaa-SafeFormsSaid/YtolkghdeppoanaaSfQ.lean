/-
  A safe's files: read, named; a safe that there isn't.
-/
import Derived.Test.YtolkghdeppoanaaSfP
set_option linter.unusedVariables false
set_option linter.unusedSimpArgs false
namespace Go.Proofs.Ytolkghdeppoanaa.SfQ
open Go.RowKit Go.Sort Go.Proofs.Ytolkghdeppoanaa.BxD Go.Proofs.Ytolkghdeppoanaa.BxKit Go.Proofs.Ytolkghdeppoanaa.PkKit Go.Proofs.Ytolkghdeppoanaa.RkO Go.Proofs.Ytolkghdeppoanaa.RkP Go.Proofs.Ytolkghdeppoanaa.RkC Go.Proofs.Ytolkghdeppoanaa.RkD Go.Proofs.Ytolkghdeppoanaa.RkR Go.Proofs.Ytolkghdeppoanaa.RkK Go.Proofs.Ytolkghdeppoanaa.RkM Go.Proofs.Ytolkghdeppoanaa.RkN Go.Proofs.Ytolkghdeppoanaa.SfC Go.Proofs.Ytolkghdeppoanaa.SfD Go.Proofs.Ytolkghdeppoanaa.SfK Go.Proofs.Ytolkghdeppoanaa.SfN Go.Proofs.Ytolkghdeppoanaa.SfO

abbrev nilP : Value := .pointer none
section
variable {base T S lo hi k : Nat} {w w' : World} {s s' : St}
set_option maxHeartbeats 2000000 in
set_option maxRecDepth 100000 in
theorem read_s (h : Sx base T S lo hi k w s) (h6 : k ≤ 1000) (n : ByteArray) :
    Calls Try.prog 24 #[ptr S, .string n] w (RdPost (if n = nR then none else rdF s n) w) := by
  have KR := Lib.hid (rack_any h)
  have KD := Lib.hid (readX h.rx h6 n)
  have e1 := nR_eq n
  clear h
  unfold ptr at *
  by_cases hn : n = nR
  · rw [decide_eq_true hn] at e1
    rw [if_pos hn]
    clear hn
    go_enter Try.func24, Try.ntmps24
    go_wp2
    refine bodyPost_ret (v := .tuple #[.slice none 0 0, .bool false]) (by simp [results, Try.results24, go_sem]) rfl ?_
    exact ⟨none, 0, 0, rfl, ByT.nil _ _, Nat.le_refl _, Below.refl _ _⟩
  · rw [decide_eq_false hn] at e1
    rw [if_neg hn]
    clear hn
    unfold RdPost at KD
    go_enter Try.func24, Try.ntmps24
    go_wp2_with (first
      | (go_at_call 26; go_loud (refine KR.out.mono ?_; rintro e w1 ⟨rfl, rfl⟩))
      | (go_at_call 39; go_loud (refine KD.out.mono ?_; rintro e w2 ⟨A2, m2, c2, rfl, h1, h2, h3⟩; have HP := Lib.hid (And.intro h1 (And.intro h2 h3)); clear h1 h2 h3)))
    refine bodyPost_ret (v := .tuple #[.slice A2 m2 c2, .bool (rdF s n).isSome]) (by simp [results, Try.results24, go_sem]) rfl ?_
    exact ⟨A2, m2, c2, rfl, HP.out⟩
end
def rq (x : List UInt8) : Bool := x == [61, 114, 101, 100, 111]
set_option maxRecDepth 100000 in
theorem is_redo (x : List UInt8) (W : World) : FnGives Try.prog 52 #[] #[encStr x] (.bool (rq x)) W := by
  show Calls Try.prog _ #[encStr x] W _
  unfold encStr rq
  go_enter Try.func52, Try.ntmps52
  go_wp2
  go_ret
  exact ⟨rfl, 0, rfl⟩
def DlPost (n : Nat) (w : World) (e : Ending) (w' : World) : Prop := ∃ A c, e = .returned (.slice A n c) ∧ Below w.heap.size w w'
abbrev fnV : Value := .func (.func 52) #[] #[]
set_option maxRecDepth 100000 in
theorem idx_none (w : World) : Calls Try.prog 71 #[.slice none 0 0, fnV] w fun e w' => e = .returned (.int .i64 (-1)) ∧ w = w' := by
  unfold fnV
  go_enter Try.func71, Try.ntmps71
  go_wp2_with fail
  go_loopw [8] (fun s8 wr => s8 = .int .i64 0 ∧ wr = w) (fun _ _ => 0)
  case atStart => exact ⟨rfl, rfl⟩
  case round =>
    obtain ⟨rfl, rfl⟩ := hrel
    go_wp2_with fail
    go_ret
    exact ⟨rfl, rfl⟩
set_option maxRecDepth 100000 in
theorem del_none (w : World) : Calls Try.prog 50 #[.slice none 0 0, fnV] w (DlPost 0 w) := by
  unfold fnV
  go_enter Try.func50, Try.ntmps50
  go_wp2_with (go_at_call 71; go_loud (refine (idx_none w).mono ?_; rintro e w' ⟨rfl, rfl⟩))
  go_ret
  exact ⟨none, 0, rfl, Below.refl _ _⟩
theorem del_any {w w0 : World} {n c : Nat} {A : Option Addr} {ks : Tx} (h : w.ownsRow w0.heap.size 9 1 (.slice A n c) n (ks.map encStr)) (hb0 : Below w0.heap.size w0 w) (hn : 0 < n) (h6 : n ≤ 1000000) :
    Calls Try.prog 50 #[.slice A n c, fnV] w (DlPost (ks.filter fun x => !rq x).length w0) := by
  have hl : ks.length = n := by have := h.1; simpa using this
  obtain ⟨g, cap, e, hb, hg, hnc, hcm, _, hH⟩ := Lib.holds_of_ownsRow h (by intro e; injection e with _ e; omega)
  injection e with e1 e2 e3
  subst e1 e3
  have hc := Try.slices_DeleteFunc encStr (fun _ => rfl) rq 52 #[] (enters_of Try.func52 (by kernel_rfl) rfl) [] (fun _ => by kernel_rfl) g 0 c ks.toArray w (fun W x _ => is_redo x W) (fun _ _ _ x _ => is_redo x _) hH (by simp; omega) (by simp; omega)
  have hs : ks.toArray.size = n := by simpa using hl
  rw [hs] at hc
  refine hc.mono ?_
  rintro e w' ⟨rfl, q, rfl⟩
  exact ⟨_, _, rfl, Lib.below_putRow hb0 hb⟩
section
variable {base T S lo hi k : Nat} {w w' : World} {s s' : St}
set_option maxHeartbeats 2000000 in
set_option maxRecDepth 100000 in
theorem names_s (h : Sx base T S lo hi k w s) (h6 : k ≤ 1000) (hf : 0 < s.files.length) :
    Calls Try.prog 25 #[ptr S] w (DlPost (((s.files.map (·.1)).map (·.data.toList)).filter fun x => !rq x).length w) := by
  have KR := Lib.hid (rack_any h)
  have KN := Lib.hid (namesX h.rx h6)
  have hfl := h.rx.ok.files.len
  clear h
  unfold NmPost ptr at *
  have hnl : (s.files.map (·.1)).length = s.files.length := List.length_map _
  rw [hnl] at KN
  obtain ⟨fn, hfn⟩ : ∃ fn, fn = s.files.length := ⟨_, rfl⟩
  rw [← hfn] at KN hfl hf
  obtain ⟨m, hm⟩ : ∃ m, m = (((s.files.map (·.1)).map (·.data.toList)).filter fun x => !rq x).length := ⟨_, rfl⟩
  rw [← hm]
  have HM := Lib.hid hm
  clear hnl hfn hm
  go_enter Try.func25, Try.ntmps25
  go_wp2_with (first
    | (go_at_call 26; go_loud (refine KR.out.mono ?_; rintro e w1 ⟨rfl, rfl⟩))
    | (go_at_call 51; go_loud (
       refine KN.out.mono ?_
       rintro e w2 ⟨A2, c2, rfl, h7, h8⟩
       have KX := Lib.hid (del_any (w0 := w) (ks := (s.files.map (·.1)).map (·.data.toList)) (by rw [enc_map]; exact h7) h8 hf (by omega))
       rw [← HM.out] at KX
       unfold DlPost fnV at KX
       clear h7 h8))
    | (go_at_call 50; go_loud (
       refine KX.out.mono ?_
       rintro e w3 ⟨A3, c3, rfl, h9⟩
       have B3 := Lib.hid h9
       clear h9)))
  go_ret
  exact ⟨A3, c3, rfl, B3.out⟩
end

/-! ## A safe that there isn't -/
set_option maxRecDepth 100000 in
theorem rack0 (w : World) : Calls Try.prog 26 #[nilP] w fun e w' => e = .returned nilP ∧ w = w' := by
  go_enter Try.func26, Try.ntmps26
  go_wp2
  go_ret
  exact ⟨rfl, rfl⟩
set_option maxRecDepth 100000 in
theorem rread0 (v : Value) (w : World) : Calls Try.prog 39 #[nilP, v] w fun e w' => e = .returned (.tuple #[.slice none 0 0, .bool false]) ∧ w = w' := by
  go_enter Try.func39, Try.ntmps39
  go_wp2
  go_ret2
  exact ⟨rfl, rfl⟩
set_option maxRecDepth 100000 in
theorem rnames0 (w : World) : Calls Try.prog 51 #[nilP] w fun e w' => e = .returned (.slice none 0 0) ∧ w = w' := by
  go_enter Try.func51, Try.ntmps51
  go_wp2
  go_ret
  exact ⟨rfl, rfl⟩
set_option maxRecDepth 100000 in
theorem open0 (w : World) : Calls Try.prog 17 #[nilP] w fun e w' => e = .returned (.tuple #[nilP, .int .i64 1]) ∧ w = w' := by
  go_enter Try.func17, Try.ntmps17
  go_wp2
  refine bodyPost_ret (v := .tuple #[nilP, .int .i64 1]) (by simp [results, Try.results17, go_sem]) rfl ?_
  exact ⟨rfl, rfl⟩
set_option maxRecDepth 100000 in
theorem fits0 (v : Value) (w : World) : Calls Try.prog 19 #[nilP, v] w fun e w' => e = .returned (.int .i64 1) ∧ w = w' := by
  have KR := Lib.hid (rack0 w)
  go_enter Try.func19, Try.ntmps19
  go_wp2_with (go_at_call 26; go_loud (refine KR.out.mono ?_; rintro e w1 ⟨rfl, rfl⟩))
  go_ret
  exact ⟨rfl, rfl⟩
set_option maxRecDepth 100000 in
theorem commit0 (v : Value) (w : World) : Calls Try.prog 18 #[nilP, v] w fun e w' => e = .returned (.int .i64 1) ∧ w = w' := by
  have KR := Lib.hid (fits0 v w)
  go_enter Try.func18, Try.ntmps18
  go_wp2_with (go_at_call 19; go_loud (refine KR.out.mono ?_; rintro e w1 ⟨rfl, rfl⟩))
  go_ret
  exact ⟨rfl, rfl⟩
set_option maxRecDepth 100000 in
theorem read0 (w : World) : Calls Try.prog 24 #[nilP, .string ⟨#[97]⟩] w fun e w' => e = .returned (.tuple #[.slice none 0 0, .bool false]) ∧ w = w' := by
  have KR := Lib.hid (rack0 w)
  have KD := Lib.hid (rread0 (.string ⟨#[97]⟩) w)
  have e1 := nR_eq ⟨#[97]⟩
  rw [decide_eq_false (by decide)] at e1
  go_enter Try.func24, Try.ntmps24
  go_wp2_with (first
    | (go_at_call 26; go_loud (refine KR.out.mono ?_; rintro e w1 ⟨rfl, rfl⟩))
    | (go_at_call 39; go_loud (refine KD.out.mono ?_; rintro e w1 ⟨rfl, rfl⟩)))
  refine bodyPost_ret (v := .tuple #[.slice none 0 0, .bool false]) (by simp [results, Try.results24, go_sem]) rfl ?_
  exact ⟨rfl, rfl⟩
set_option maxRecDepth 100000 in
theorem names0 (w : World) : Calls Try.prog 25 #[nilP] w (DlPost 0 w) := by
  have KR := Lib.hid (rack0 w)
  have KN := Lib.hid (rnames0 w)
  have KX := Lib.hid (del_none w)
  unfold DlPost fnV at KX
  go_enter Try.func25, Try.ntmps25
  go_wp2_with (first
    | (go_at_call 26; go_loud (refine KR.out.mono ?_; rintro e w1 ⟨rfl, rfl⟩))
    | (go_at_call 51; go_loud (refine KN.out.mono ?_; rintro e w2 ⟨rfl, rfl⟩))
    | (go_at_call 50; go_loud (refine KX.out.mono ?_; rintro e w3 ⟨A3, c3, rfl, h9⟩; have B3 := Lib.hid h9; clear h9)))
  go_ret
  exact ⟨A3, c3, rfl, B3.out⟩
end Go.Proofs.Ytolkghdeppoanaa.SfQ
