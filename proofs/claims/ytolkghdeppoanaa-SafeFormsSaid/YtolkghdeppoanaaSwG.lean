/-
  The document reads changes back.
-/
import Derived.Test.YtolkghdeppoanaaSwD
import Derived.Test.YtolkghdeppoanaaSwR
import Derived.Deep.QuietTactic
import Derived.BigQuiet
set_option linter.unusedVariables false
set_option linter.unusedSimpArgs false
namespace Go.Proofs.Ytolkghdeppoanaa.SwG
open Go.RowKit Go.Proofs.Ytolkghdeppoanaa.PkA Go.Proofs.Ytolkghdeppoanaa.BxD Go.Proofs.Ytolkghdeppoanaa.BxKit Go.Proofs.Ytolkghdeppoanaa.PkKit Go.Proofs.Ytolkghdeppoanaa.PkD Go.Proofs.Ytolkghdeppoanaa.RkD Go.Proofs.Ytolkghdeppoanaa.RkK Go.Proofs.Ytolkghdeppoanaa.RkR Go.Proofs.Ytolkghdeppoanaa.RkS Go.Proofs.Ytolkghdeppoanaa.RkP Go.Proofs.Ytolkghdeppoanaa.SfB Go.Proofs.Ytolkghdeppoanaa.SfC Go.Proofs.Ytolkghdeppoanaa.SfF Go.Proofs.Ytolkghdeppoanaa.SwD
open Go.Proofs.Ytolkghdeppoanaa.PkF (ptr grown_set grown_trans ne_int tz)

/-! ## Pure -/
theorem numV0 (l : List UInt8) : numV (l, 0, false) = ((ps l).1, (l.drop (ps l).2.1, (ps l).2.2, false)) := by unfold numV; exact if_neg (by simp)
theorem rd_err {l : List UInt8} (h : (ps l).2.2 ≠ 0) : firstS (rdC (l, 0, false)).2 = (ps l).2.2 := by
  have e1 : (ps l).1 = 0 ∧ (ps l).2.1 = 0 := by rcases ps_err h with e | e <;> rw [e] <;> exact ⟨rfl, rfl⟩
  have e2 : ntS 1 (l, 0, false) = (0, (l, (ps l).2.2, false)) := by
    unfold ntS
    rw [numV0]
    simp only [e1.1, e1.2, List.drop_zero]
    exact if_neg (by decide)
  unfold rdC
  rw [e2, if_neg (by simp)]
  simp only
  rw [txt_bad 24 (by exact h)]
  simp only
  rw [txt_bad 200000 (by exact h)]
  rfl
theorem over_txt (m : Int) (s : Sr) (h : s.2.2 = true) : (txtS m s).2.2.2 = true := by
  unfold txtS
  split
  · exact h
  · exact h
theorem rd_big {l : List UInt8} (hx : 1 < (ps l).1) : firstS (rdC (l, 0, false)).2 = 3 := by
  have e2 : ntS 1 (l, 0, false) = (0, (l.drop (ps l).2.1, (ps l).2.2, true)) := by
    unfold ntS
    rw [numV0]
    exact if_pos hx
  unfold rdC
  rw [e2, if_neg (by simp)]
  unfold firstS
  rw [if_pos (over_txt _ _ (over_txt _ _ rfl))]
theorem rd_one {l : List UInt8} (hx : (ps l).1 = 1) : rdC (l, 0, false) = (⟨(txtS 24 (l.drop (ps l).2.1, (ps l).2.2, false)).1, true, []⟩, (txtS 24 (l.drop (ps l).2.1, (ps l).2.2, false)).2) := by
  have e2 : ntS 1 (l, 0, false) = (1, (l.drop (ps l).2.1, (ps l).2.2, false)) := by
    unfold ntS
    rw [numV0]
    simp only [hx]
    exact if_neg (by decide)
  unfold rdC
  rw [e2, if_pos rfl]
theorem rd_zero {l : List UInt8} (hx : (ps l).1 = 0) : rdC (l, 0, false) = (⟨(txtS 24 (l.drop (ps l).2.1, (ps l).2.2, false)).1, false, (txtS 200000 (txtS 24 (l.drop (ps l).2.1, (ps l).2.2, false)).2).1.data.toList⟩, (txtS 200000 (txtS 24 (l.drop (ps l).2.1, (ps l).2.2, false)).2).2) := by
  have e2 : ntS 1 (l, 0, false) = (0, (l.drop (ps l).2.1, (ps l).2.2, false)) := by
    unfold ntS
    rw [numV0]
    simp only [hx]
    exact if_neg (by decide)
  unfold rdC
  rw [e2, if_neg (by simp)]
theorem txt_ov (m : Int) (s : Sr) (h : s.2.2 = false) : (txtS m s).2.2.2 = false := by
  unfold txtS
  split
  · exact h
  · exact h
theorem first_ov {s : Sr} (h : s.2.2 = false) : firstS s = s.2.1 := by unfold firstS; rw [h]; rfl

/-- What the document does with a change. -/
def g6 (l : List UInt8) : Sr := if (ps l).2.2 = 0 ∧ 1 < (ps l).1 then (l, 3, false) else (l.drop (ps l).2.1, (ps l).2.2, false)
def g9 (l : List UInt8) : ByteArray × Sr := txtS 24 (g6 l)
def g11 (l : List UInt8) : List UInt8 × Sr := if (ps l).1 = 0 then ((txtS 200000 (g9 l).2).1.data.toList, (txtS 200000 (g9 l).2).2) else ([], (g9 l).2)
theorem g6_ov (l : List UInt8) : (g6 l).2.2 = false := by unfold g6; split <;> rfl
theorem g11_ov (l : List UInt8) : (g11 l).2.2.2 = false := by
  unfold g11
  split
  · exact txt_ov _ _ (txt_ov _ _ (g6_ov l))
  · exact txt_ov _ _ (g6_ov l)
theorem g_rd (l : List UInt8) : firstS (rdC (l, 0, false)).2 = (g11 l).2.2.1 ∧ ((g11 l).2.2.1 = 0 → rdC (l, 0, false) = (⟨(g9 l).1, decide ((ps l).1 = 1), (g11 l).1⟩, ((g11 l).2.1, 0, false))) := by
  have ho := g11_ov l
  have fin : ∀ s : Sr, s.2.2 = false → s.2.1 = 0 → s = (s.1, 0, false) := fun s h1 h2 => Prod.ext rfl (Prod.ext h2 h1)
  by_cases he : (ps l).2.2 = 0
  · by_cases hb : 1 < (ps l).1
    · have e6 : g6 l = (l, 3, false) := if_pos ⟨he, hb⟩
      have e9 : g9 l = (⟨#[]⟩, (l, 3, false)) := by unfold g9; rw [e6]; exact txt_bad 24 (show (3 : Nat) ≠ 0 by decide)
      have e11 : (g11 l).2 = (l, 3, false) := by unfold g11; rw [if_neg (by omega), e9]
      rw [rd_big hb, e11]
      exact ⟨rfl, fun h => by cases h⟩
    · have e6 : g6 l = (l.drop (ps l).2.1, (ps l).2.2, false) := if_neg (fun h => hb h.2)
      by_cases h1 : (ps l).1 = 1
      · have e11 : g11 l = ([], (g9 l).2) := by unfold g11; rw [if_neg (by omega)]
        have hr := rd_one h1
        rw [← e6] at hr
        have hr2 : rdC (l, 0, false) = (⟨(g9 l).1, true, []⟩, (g9 l).2) := hr
        rw [e11] at ho ⊢
        rw [hr2, first_ov ho, decide_eq_true h1]
        exact ⟨rfl, fun h => by rw [fin _ ho h]⟩
      · have h0 : (ps l).1 = 0 := by omega
        have e11 : g11 l = ((txtS 200000 (g9 l).2).1.data.toList, (txtS 200000 (g9 l).2).2) := by unfold g11; rw [if_pos h0]
        have hr := rd_zero h0
        rw [← e6] at hr
        have hr2 : rdC (l, 0, false) = (⟨(g9 l).1, false, (txtS 200000 (g9 l).2).1.data.toList⟩, (txtS 200000 (g9 l).2).2) := hr
        rw [e11] at ho ⊢
        rw [hr2, first_ov ho, decide_eq_false h1]
        exact ⟨rfl, fun h => by rw [fin _ ho h]⟩
  · have e0 : (ps l).1 = 0 ∧ (ps l).2.1 = 0 := by rcases ps_err he with e | e <;> rw [e] <;> exact ⟨rfl, rfl⟩
    have e6 : g6 l = (l, (ps l).2.2, false) := by unfold g6; rw [if_neg (fun h => he h.1), e0.2, List.drop_zero]
    have e9 : g9 l = (⟨#[]⟩, (l, (ps l).2.2, false)) := by unfold g9; rw [e6]; exact txt_bad 24 he
    have e11 : (g11 l).2 = (l, (ps l).2.2, false) := by unfold g11; rw [if_pos e0.1, e9]; simp only; rw [txt_bad 200000 (by exact he)]
    rw [rd_err he, e11]
    exact ⟨rfl, fun h => absurd h he⟩

theorem row_notU {w : World} {P : Nat} {l : List Value} (h : RkO.Row w P 42 l) : ¬ KeepU w P := by
  rintro ⟨cs, fr, h1⟩
  unfold RkO.Row at h
  rw [h] at h1
  injection h1 with h1
  injection h1 with _ e2
  exact absurd e2 (by decide)
/-! ## In the midst of it -/
structure Pd (w wr : World) (M T : Nat) (l : List UInt8) (er : Nat) (v : Value) (q : Nat) (rs : List RC) : Prop where
  bel : Below w.heap.size w wr
  rd : RR wr T l er
  wT : w.heap.size ≤ T
  TM : T < M
  hM : M ≤ wr.heap.size
  own : wr.ownsRow M 42 3 v q (cc rs)
  dat : ∀ r ∈ rs, DatOk wr w.heap.size r
section
variable {w wr w2 : World} {M T q er e2 : Nat} {l l2 : List UInt8} {v : Value} {rs : List RC}
theorem ku_T (h : RR wr T l er) (hg : wr.grownBy w2 (some T)) : Ku wr w2 := by
  intro k hk
  refine hg.block k hk.lt fun e => ?_
  obtain rfl := Option.some.inj e
  obtain ⟨cs, fr, h1⟩ := hk
  obtain ⟨A, n, cp, hh, _⟩ := h
  rw [hh] at h1
  injection h1 with h1
  injection h1 with _ e3
  exact absurd e3 (by decide)
theorem Pd.turn (h : Pd w wr M T l er v q rs) (hr : RR w2 T l2 e2) (hg : wr.grownBy w2 (some T)) : Pd w w2 M T l2 e2 v q rs := by
  have h1 := h.wT
  have h2 := h.TM
  refine ⟨h.bel.grown hg h.bel.size (fun k e => by have := Option.some.inj e; omega), hr, h1, h2, Nat.le_trans h.hM hg.size,
    own_block h.own (fun g e => hg.block g (h.own.lt g e).2 (fun e3 => by have := Option.some.inj e3; have := (h.own.lt g e).1; omega)), fun r hr' => (h.dat r hr').ku (ku_T h.rd hg)⟩
theorem Pd.go (h : Pd w wr M T l er v q rs) (hb : Below wr.heap.size wr w2) : Pd w w2 M T l er v q rs :=
  ⟨h.bel.trans (hb.mono h.bel.size), h.rd.below hb h.rd.lt, h.wT, h.TM, Nat.le_trans h.hM hb.size, SwR.own_go h.own hb, fun r hr => (h.dat r hr).ku (Kp.below hb (Nat.le_refl _)).ku⟩
theorem Pd.more {v' : Value} {r : RC} (h : Pd w wr M T l er v q rs) (hr : DatOk wr w.heap.size r) (hown : w2.ownsRow M 42 3 v' (q + 1) (cc rs ++ cell3 r)) (hg : wr.grownBy w2 v.ownBlock) : Pd w w2 M T l er v' (q + 1) (rs ++ [r]) := by
  have h2 := h.TM
  have hk : Ku wr w2 := (Ku.grown hg fun g e => by
    rcases h.own.2 with ⟨hv, _⟩ | ⟨g', cap, cur, hv, _, hgg, _⟩
    · rw [hv] at e; cases e
    · rw [hv] at e
      obtain rfl : g' = g := Option.some.inj e
      exact ⟨_, _, _, hgg, by decide⟩)
  have hne : ∀ k, k < M → v.ownBlock ≠ some k := fun k hk e => by have := (h.own.lt k e).1; omega
  refine ⟨h.bel.grown hg h.bel.size (fun g e => by have := (h.own.lt g e).1; have := h.wT; omega), ?_, h.wT, h2, Nat.le_trans h.hM hg.size, ?_, ?_⟩
  · exact h.rd.below (B := M) ⟨hg.os, hg.tape, hg.output, hg.size, fun k hk => hg.block k (Nat.lt_of_lt_of_le hk h.hM) (fun e => hne k hk e.symm)⟩ h2
  · rw [cc_append, show cc [r] = cell3 r by simp [cc]]
    exact hown
  · intro x hx
    rcases List.mem_append.1 hx with hx | hx
    · exact (h.dat x hx).ku hk
    · obtain rfl := List.mem_singleton.1 hx
      exact hr.ku hk
/-- A block of the call's own, neither the reader's nor the row's, is written. -/
theorem Pd.other {Pb2 : Nat} (h : Pd w wr M T l er v q rs) (hg : wr.grownBy w2 (some Pb2)) (h1 : M ≤ Pb2) (ho : v.ownBlock ≠ some Pb2) (hU : ¬ KeepU wr Pb2) : Pd w w2 M T l er v q rs := by
  have h2 := h.wT
  have h3 := h.TM
  have hb : Below M wr w2 := ⟨hg.os, hg.tape, hg.output, hg.size, fun k hk => hg.block k (Nat.lt_of_lt_of_le hk h.hM) (fun e => by have := Option.some.inj e; omega)⟩
  refine ⟨h.bel.trans (hb.mono (by omega)), h.rd.below hb h3, h2, h3, Nat.le_trans h.hM hg.size,
    own_block h.own (fun g e => hg.block g (h.own.lt g e).2 (fun e3 => ho (e.trans e3))), fun r hr => (h.dat r hr).ku fun k hk => hg.block k hk.lt (fun e => hU (by rw [← Option.some.inj e]; exact hk))⟩
theorem Pd.tell {A : Option Addr} {c : Nat} (h : Pd w wr M T l er (.slice A q c) q rs) : ChsP wr 0 w.heap.size wr.heap.size A q (rs.map cOf) :=
  SwR.chs_own h.own (fun r hr => ⟨by
    obtain ⟨⟨h1, h2⟩, h3, h4⟩ := h.dat r hr
    refine ⟨h1, fun hn => ?_⟩
    obtain ⟨ad, e, hk, hc⟩ := h2 hn
    exact ⟨ad, e, .inr ⟨h4 ad e, hk.lt⟩, hc⟩, (h.dat r hr).2.1⟩) (fun g hg hl => .inr ⟨by have := h.wT; have := h.TM; omega, hl⟩)
end
set_option maxHeartbeats 8000000 in
set_option maxRecDepth 100000 in
theorem parse_doc {w : World} {B n cp : Nat} {A : Option Addr} {l : List UInt8} (h : BytesAt w B A n l) (hB : B ≤ w.heap.size) (hcp : n ≤ cp) (hn : n ≤ 1000000000) : Calls Try.prog 12 #[.slice A n cp] w (PaPost (parse l) w) := by
  have hln := h.1
  generalize hf0 : parse l = ans
  have HA0 := Lib.hid (show mid [] (parse l) = ans by rw [mid_nil]; exact hf0)
  have R0 := Lib.hid (show RR (w.alloc (.cells #[.slice A n cp, .int .i64 0] 68)) w.heap.size l 0 from ⟨A, n, cp, heap_alloc_new w _, (h.below (below_alloc w _) hB).more hB, hcp, by omega⟩)
  have B0 := Lib.hid (below_alloc w (.cells #[.slice A n cp, .int .i64 0] 68))
  obtain ⟨T, hT⟩ : ∃ T, T = w.heap.size := ⟨_, rfl⟩
  have hTM := R0.out.lt
  clear h hf0
  go_enter Try.func12, Try.ntmps12
  go_upto_region 2 with fail
  rw [← hT] at R0 hTM ⊢
  have HTE := Lib.hid hT
  clear hT
  generalize (World.alloc w _) = w1 at R0 B0 hTM ⊢
  have P1 := Lib.hid (show Pd w w1 w1.heap.size T l 0 (.slice none 0 0) 0 [] from ⟨B0.out, R0.out, Nat.le_of_eq HTE.out.symm, hTM, Nat.le_refl _, World.ownsRow_nil _ _ _ _, fun r hr => by simp at hr⟩)
  clear hTM R0
  generalize w1.heap.size = M at P1
  go_wp2_with fail
  go_loopw [5] (fun s5 wr => ∃ (A : Option Addr) (q c : Nat) (rs : List RC) (l2 : List UInt8), s5 = .slice A q c ∧ q + l2.length ≤ n ∧ Hid (Pd w wr M T l2 0 (.slice A q c) q rs) ∧ Hid (mid (rs.map cOf) (parse l2) = ans)) (fun s5 _ => n - lenV s5)
  case atStart => exact ⟨none, 0, 0, [], l, rfl, by omega, P1.out, HA0.out⟩
  case round =>
    clear P1 HA0
    obtain ⟨A, q, c, rs, l2, rfl, hq, P1, HA⟩ := hrel
    obtain ⟨LA, ln, lc, hll, ⟨hlc, hlm⟩, b0, b1, f0, f1, hz⟩ := P1.out.rd.cells
    rw [show (((0 : Nat) : Int)) = 0 from rfl] at b1
    have HZ := Lib.hid hz
    clear hz
    by_cases hl0 : l2 = []
    · subst hl0
      obtain rfl : ln = 0 := by rw [← hll]; rfl
      have HE := Lib.hid ((mid_end _).symm.trans HA.out)
      go_wp2_with fail
      refine bodyPost_ret (v := .tuple #[.slice A q c, .int .i64 0]) (by simp [results, Try.results12, go_sem]) rfl ?_
      obtain ⟨A6, k6, e6, hk6⟩ := RkR.own_slice P1.out.own
      rw [← HE.out]
      exact ⟨A, q, c, rfl, by injection e6 with _ _ e6; omega, P1.out.tell, P1.out.bel⟩
    · have hlen : 0 < ln := by rw [← hll]; exact List.length_pos_iff.2 hl0
      have hli : (0 : Int) < (ln : Int) := by omega
      have P4 := Lib.hid (P1.out.go (below_alloc wr (.cells #[.slice LA ln lc, .int .i64 0] 68)))
      have W4 := Lib.hid (show RkO.Row (wr.alloc (.cells #[.slice LA ln lc, .int .i64 0] 68)) wr.heap.size 68 [.slice LA ln lc, .int .i64 0] from heap_alloc_new wr _)
      have BT4 := Lib.hid (show Below T wr (wr.alloc (.cells #[.slice LA ln lc, .int .i64 0] 68)) from (below_alloc wr _).mono (Nat.le_of_lt P1.out.rd.lt))
      have hTw := P1.out.rd.lt
      obtain ⟨WB, hWB⟩ : ∃ WB, WB = wr.heap.size := ⟨_, rfl⟩
      have hWT : WB ≠ T := by omega
      have HL2 := Lib.hid hl0
      clear hl0
      go_upto_region 5 with fail
      rw [← hWB] at W4 ⊢
      clear b0 b1 f0 f1 hWB hTw
      generalize (World.alloc wr _) = w4 at P4 W4 BT4 ⊢
      have KN := Lib.hid (Number_any (s := (l2, 0, false)) P4.out.rd)
      rw [numV0] at KN
      simp only at KN
      obtain ⟨x, hx⟩ : ∃ x, x = (ps l2).1 := ⟨_, rfl⟩
      obtain ⟨l5, hl5⟩ : ∃ l5, l5 = l2.drop (ps l2).2.1 := ⟨_, rfl⟩
      obtain ⟨er, her⟩ : ∃ er, er = (ps l2).2.2 := ⟨_, rfl⟩
      have hg6 : g6 l2 = if er = 0 ∧ 1 < x then (l2, 3, false) else (l5, er, false) := by rw [hx, hl5, her]; rfl
      rw [← hx, ← hl5, ← her] at KN
      have HX := Lib.hid hx
      have HG6 := Lib.hid hg6
      clear hx hl5 her hg6
      unfold RP ptr at KN
      go_upto_region 6 with (go_at_call 33; go_loud (
         refine KN.out.mono ?_
         rintro e w5 ⟨rfl, h1, h2⟩
         have P5 := Lib.hid (P4.out.turn h1 h2)
         have W5 := Lib.hid (W4.out.same (h2.block WB W4.out.lt (fun e => hWT (Option.some.inj e))))
         have BT5 := Lib.hid (Below.grown BT4.out h2 (Nat.le_of_lt P4.out.rd.lt) (fun k e => Nat.le_of_eq (Option.some.inj e)))
         clear h1 h2))
      clear KN
      obtain ⟨s6, hs6⟩ : ∃ s6, s6 = g6 l2 := ⟨_, rfl⟩
      rw [← hs6] at HG6
      have HS6 := Lib.hid hs6
      clear hs6
      go_cut [31] (fun s31 wx => s31 = .bool (decide (er = 0 ∧ 1 < x)) ∧ wx = w5)
      case first =>
        obtain ⟨A5, n5, c5, hl5, ⟨h5a, h5b⟩, b0, b1, f0, f1, hz5⟩ := P5.out.rd.cells
        clear hz5 hl5
        by_cases he : er = 0
        · subst he
          rw [show (((0 : Nat) : Int)) = 0 from rfl] at b1
          by_cases hb : 1 < x
          · have hbi : (1 : Int) < (x : Int) := by omega
            have hd : decide ((0 : Nat) = 0 ∧ 1 < x) = true := decide_eq_true ⟨rfl, hb⟩
            have HD := Lib.hid hd
            clear hd
            go_wp2_with fail
            go_meet
            exact ⟨by rw [HD.out], rfl⟩
          · have hbi : ¬ (1 : Int) < (x : Int) := by omega
            have hd : decide ((0 : Nat) = 0 ∧ 1 < x) = false := decide_eq_false fun h => hb h.2
            have HD := Lib.hid hd
            clear hd
            go_wp2_with fail
            go_meet
            exact ⟨by rw [HD.out], rfl⟩
        · have hne : ((er : Int) == 0) = false := by rw [beq_eq_false_iff_ne]; omega
          have hd : decide (er = 0 ∧ 1 < x) = false := decide_eq_false fun h => he h.1
          have HD := Lib.hid hd
          clear hd
          go_wp2_with fail
          go_meet
          exact ⟨by rw [HD.out], rfl⟩
      case rest =>
      obtain ⟨rfl, rfl⟩ := hcut
      apply_assumption
      go_cut [36] (fun s36 wx => Hid (Pd w wx M T s6.1 s6.2.1 (.slice A q c) q rs))
      case first =>
        obtain ⟨A5, n5, c5, hl5, ⟨h5a, h5b⟩, b0, b1, f0, f1, hz5⟩ := P5.out.rd.cells
        clear hz5 hl5
        by_cases hb : er = 0 ∧ 1 < x
        · rw [decide_eq_true hb]
          have e6 : s6 = (l2, 3, false) := by rw [HG6.out, if_pos hb]
          have W0 := W5.out.cell 0
          have W1 := W5.out.cell 1
          have HZ5 := Lib.hid (HZ.out.below BT5.out (Nat.le_refl _))
          have HF := Lib.hid (show Pd w ((((wc.setCell ⟨T, 0, none⟩ (.slice LA ln lc)).setCell ⟨T, 1, none⟩ (.int .i64 0))).setCell ⟨T, 1, none⟩ (.int .i64 3)) M T s6.1 s6.2.1 (.slice A q c) q rs from by
            rw [e6]
            have r1 := P5.out.rd.of_set (er := 0) HZ5.out hlc hlm
            exact P5.out.turn (r1.of_err (er := 3)) (grown_trans (grown_trans (grown_set _) (grown_set _)) (grown_set _)))
          clear e6 hb
          go_wp2_with fail
          go_meet
          exact HF
        · rw [decide_eq_false hb]
          have e6 : s6 = (l5, er, false) := by rw [HG6.out, if_neg hb]
          have HF := Lib.hid (show Pd w wc M T s6.1 s6.2.1 (.slice A q c) q rs from by rw [e6]; exact P5.out)
          clear e6 hb
          go_wp2_with fail
          go_meet
          exact HF
      case rest =>
        have P6 := hcut
        clear P5 W5 BT5 P4 W4 BT4 HZ HG6 hWT
        have h6o : s6.2.2 = false := by rw [HS6.out]; exact g6_ov l2
        have KT := Lib.hid (text_any (s := s6) P6.out.rd 24)
        obtain ⟨s9, hs9⟩ : ∃ s9, s9 = (g9 l2).2 := ⟨_, rfl⟩
        obtain ⟨nm, hnm⟩ : ∃ nm, nm = (g9 l2).1 := ⟨_, rfl⟩
        rw [show txtS 24 s6 = (nm, s9) by rw [HS6.out, hs9, hnm]; rfl] at KT
        simp only at KT
        have HS9 := Lib.hid hs9
        have HNM := Lib.hid hnm
        have hx1 : ((x : Int) == 1) = decide (x = 1) := by by_cases h : x = 1 <;> simp [h] <;> omega
        unfold RP ptr at KT
        clear hs9 hnm h6o
        go_upto_region 10 with (go_at_call 34; go_loud (
           refine KT.out.mono ?_
           rintro e w7 ⟨rfl, h1, h2⟩
           have P7 := Lib.hid (P6.out.turn h1 h2)
           clear h1 h2))
        clear KT hx1
        have P8 := Lib.hid (P7.out.go (below_alloc w7 (.cells #[.string nm, .bool (decide (x = 1)), .slice none 0 0] 42)))
        have M8 := Lib.hid (show RkO.Row (w7.alloc (.cells #[.string nm, .bool (decide (x = 1)), .slice none 0 0] 42)) w7.heap.size 42 [.string nm, .bool (decide (x = 1)), .slice none 0 0] from heap_alloc_new w7 _)
        have HPM := Lib.hid (show M ≤ w7.heap.size from P7.out.hM)
        have HPO := Lib.hid (show (Value.slice A q c).ownBlock ≠ some w7.heap.size from fun e => by have := (P7.out.own.lt _ e).2; omega)
        obtain ⟨PB, hPB⟩ : ∃ PB, PB = w7.heap.size := ⟨_, rfl⟩
        rw [← hPB] at M8 HPM HPO ⊢
        clear hPB
        generalize (World.alloc w7 _) = w8 at P8 M8 ⊢
        obtain ⟨dd, hdd⟩ : ∃ dd, dd = (g11 l2).1 := ⟨_, rfl⟩
        obtain ⟨s11, hs11⟩ : ∃ s11, s11 = (g11 l2).2 := ⟨_, rfl⟩
        have hg11 : (dd, s11) = if x = 0 then ((txtS 200000 s9).1.data.toList, (txtS 200000 s9).2) else ([], s9) := by
          rw [hdd, hs11, HX.out, HS9.out]; rfl
        have HG11 := Lib.hid hg11
        have HDD := Lib.hid hdd
        have HS11 := Lib.hid hs11
        have hMT := P8.out.TM
        clear hdd hs11 hg11
        go_cut [44] (fun s44 wx => s44 = .bool (decide (x = 0)) ∧ wx = w8)
        case first =>
          have hx0 : ((x : Int) == 0) = decide (x = 0) := by by_cases h : x = 0 <;> simp [h]
          go_wp2_with fail
          go_meet
          exact ⟨rfl, rfl⟩
        case rest =>
        obtain ⟨rfl, rfl⟩ := hcut
        apply_assumption
        go_cut [47] (fun s47 wx => Hid (∃ (D : Option Addr) (dc : Nat), RkO.Row wx PB 42 [.string nm, .bool (decide (x = 1)), .slice D dd.length dc] ∧ DatOk wx w.heap.size ⟨nm, decide (x = 1), ⟨D, dc, dd⟩⟩ ∧ Pd w wx M T s11.1 s11.2.1 (.slice A q c) q rs))
        case first =>
          by_cases h0 : x = 0
          · rw [decide_eq_true h0]
            have hg := HG11.out
            rw [if_pos h0] at hg
            have hd1 := congrArg Prod.fst hg
            have hd2 := congrArg Prod.snd hg
            simp only at hd1 hd2
            obtain ⟨tb, htb⟩ : ∃ tb, tb = (txtS 200000 s9).1 := ⟨_, rfl⟩
            have htz : tb.size ≤ 200000 := by rw [htb]; exact SfE.txt_max s9
            have KT := Lib.hid (text_any (s := s9) P8.out.rd 200000)
            rw [← htb] at hd1 KT
            rw [← hd2] at KT
            unfold RP ptr at KT
            clear htb h0 hg hd2
            have HD1 := Lib.hid hd1
            clear hd1
            go_wp2_with (go_at_call 34; go_loud (
               refine KT.out.mono ?_
               rintro e w9 ⟨rfl, h1, h2⟩
               have P9 := Lib.hid (P8.out.turn h1 h2)
               have M9 := Lib.hid (M8.out.same (h2.block PB M8.out.lt (fun e => by have := Option.some.inj e; have := HPM.out; omega)))
               have hcv := Lib.run_convert_string_bytes (P := Try.prog) w9 9 23 5 tb Try.underlying9 Try.underlying23 Try.underlying5
               have hoo := conv_oo w9 tb (by omega)
               obtain ⟨wz, hwz⟩ : ∃ wz, wz = Lib.bytesWorld w9 5 tb := ⟨_, rfl⟩
               obtain ⟨cpm, hcpm⟩ : ∃ cpm, cpm = grownCap w9 tb.size 0 5 := ⟨_, rfl⟩
               rw [← hwz, ← hcpm] at hcv hoo
               rw [← HD1.out] at hoo
               have hts : tb.size = dd.length := by rw [HD1.out]; rfl
               rw [hts] at hcv hoo
               have PZ := Lib.hid (P9.out.go hoo.bel)
               have MZ := Lib.hid (M9.out.below hoo.bel M9.out.lt)
               have HO := Lib.hid hoo
               have HW9 := Lib.hid P9.out.bel.size
               have q2 := MZ.out.cell 2
               have qf := MZ.out.frozen 2
               obtain ⟨dl, hdl⟩ : ∃ dl, dl = dd.length := ⟨_, rfl⟩
               rw [← hdl] at hcv HO
               have HDL := Lib.hid hdl
               clear h1 h2 hwz hcpm hoo hts hdl))
            go_meet
            refine ⟨some ⟨w9.heap.size, 0, none⟩, cpm, ?_, ⟨?_, ?_, ?_⟩, ?_⟩
            · rw [← HDL.out]
              exact MZ.out.stored 2 (.slice (some ⟨w9.heap.size, 0, none⟩) dl cpm)
            · show ByT _ (some ⟨w9.heap.size, 0, none⟩) dd.length dd
              rw [← HDL.out]
              exact (SfE.ow_byT HO.out.own).kp (Kp.setCell MZ.out (by decide) (by decide) 2 _)
            · show dd.length ≤ cpm
              rw [← HDL.out]
              obtain ⟨A2, c2, e2, h2⟩ := SfM.Ow.slice HO.out.own
              injection e2 with _ _ e2
              omega
            · intro ad e
              obtain rfl := Option.some.inj e
              exact HW9.out
            · exact PZ.out.other (RkO.setCell_grown wz ⟨PB, 2, none⟩ _) HPM.out HPO.out (row_notU MZ.out)
          · rw [decide_eq_false h0]
            have hg := HG11.out
            rw [if_neg h0] at hg
            have hd1 := congrArg Prod.fst hg
            have hd2 := congrArg Prod.snd hg
            simp only at hd1 hd2
            have HF := Lib.hid (show ∃ (D : Option Addr) (dc : Nat), RkO.Row wc PB 42 [.string nm, .bool (decide (x = 1)), .slice D dd.length dc] ∧ DatOk wc w.heap.size ⟨nm, decide (x = 1), ⟨D, dc, dd⟩⟩ ∧ Pd w wc M T s11.1 s11.2.1 (.slice A q c) q rs from
              ⟨none, 0, by rw [hd1]; exact M8.out, ⟨by rw [hd1]; exact ByT.nil _ _, by rw [hd1]; exact Nat.le_refl _, fun ad e => by cases e⟩, by rw [hd2]; exact P8.out⟩)
            clear hg hd1 hd2 h0
            go_wp2_with fail
            go_meet
            exact HF
        case rest =>
          obtain ⟨D, dc, hM, hDat, hP⟩ := hcut.out
          have M11 := Lib.hid hM
          have D11 := Lib.hid hDat
          have P11 := Lib.hid hP
          clear hM hDat hP hcut M8 P8 P7 P6
          have hgr := g_rd l2
          rw [← HS11.out] at hgr
          rw [← HX.out, ← HNM.out, ← HDD.out] at hgr
          obtain ⟨hg1, hg2⟩ := hgr
          obtain ⟨A5, n5, c5, hl5, ⟨h5a, h5b⟩, b0, b1, f0, f1, hz5⟩ := P11.out.rd.cells
          clear hz5 hl5 b0 f0 f1
          by_cases hz : s11.2.1 = 0
          · rw [hz] at b1 P11
            rw [show (((0 : Nat) : Int)) = 0 from rfl] at b1
            have hfz : firstS (rdC (l2, 0, false)).2 = 0 := hg1.trans hz
            have hrd := hg2 hz
            have hls := rd_less (l := l2) hfz
            have HE := Lib.hid (show mid (rs.map cOf ++ [⟨nm, decide (x = 1), dd⟩]) (parse s11.1) = ans from by
              have h := (mid_step HL2.out hfz (xs := rs.map cOf)).symm.trans HA.out
              rw [hrd] at h
              exact h)
            rw [hrd] at hls
            simp only at hls
            obtain ⟨l4, hl4⟩ : ∃ l4, l4 = s11.1 := ⟨_, rfl⟩
            rw [← hl4] at HE hls P11
            obtain ⟨dl, hdl⟩ : ∃ dl, dl = dd.length := ⟨_, rfl⟩
            have HDL := Lib.hid hdl
            have hM := M11.out
            rw [← hdl] at hM
            have d0 := hM.cell 0
            have d1 := hM.cell 1
            have d2 := hM.cell 2
            clear hz hfz hrd hg1 hg2 hl4 hdl hM
            go_upto_region 14 with fail
            have O8 := Lib.hid (SwR.own_go P11.out.own (below_alloc wc (.cells #[.string nm, .bool (decide (x = 1)), .slice D dl dc] 42)))
            have S8 := Lib.hid (src_new wc #[.string nm, .bool (decide (x = 1)), .slice D dl dc] 42 (b := wc.heap.size) (m := 1) (sz := 3) rfl rfl (by intro u hu; simp at hu; rcases hu with h | h | h <;> (subst h; rfl)))
            have Z8 := Lib.hid (show M ≤ (wc.alloc (.cells #[.string nm, .bool (decide (x = 1)), .slice D dl dc] 42)).heap.size by have := P11.out.hM; simp; omega)
            go_wp2_with (at_builtin; go_loud (
               refine wpList_rows elC rfl _ _ rfl rfl rfl O8.out S8.out (by unfold maxLen; omega) (by omega) Z8.out ?_
               intro v9 w9 hown9 hg9 hat9
               obtain ⟨A9, k9, rfl, hk9⟩ := own_slice hown9
               have P9 := Lib.hid ((P11.out.go (below_alloc wc (.cells #[.string nm, .bool (decide (x = 1)), .slice D dl dc] 42))).more (r := ⟨nm, decide (x = 1), ⟨D, dc, dd⟩⟩) (D11.out.ku (Kp.alloc wc _).ku) (by unfold cell3; simp only; rw [← HDL.out]; exact hown9) hg9)
               clear hown9 hg9 hat9 d0 d1 d2))
            clear O8 S8 Z8
            go_roundw
            case rel => exact ⟨A9, q + 1, k9, rs ++ [⟨nm, decide (x = 1), ⟨D, dc, dd⟩⟩], l4, rfl, by omega, P9, by
              show mid _ _ = _
              rw [List.map_append]
              exact HE.out⟩
            case measure => simp [lenV]; omega
          · have HE := Lib.hid (show ans = ([], s11.2.1) from by rw [← hg1]; exact HA.out.symm.trans (mid_bad HL2.out (by rw [hg1]; exact hz)))
            obtain ⟨er2, her2⟩ : ∃ e, e = s11.2.1 := ⟨_, rfl⟩
            rw [← her2] at HE b1 hz
            have hzi : ((er2 : Int) != 0) = true := by simpa using (by omega : ¬ (er2 : Int) = 0)
            have HB11 := Lib.hid P11.out.bel
            clear hg1 hg2 her2 hz
            go_upto_region 13 with fail
            go_quiet (fail)
            go_wp2_with fail
            refine bodyPost_ret (v := .tuple #[.slice none 0 0, .int .i64 (er2 : Int)]) (by simp [results, Try.results12, go_sem]) rfl ?_
            rw [HE.out]
            exact ⟨none, 0, 0, rfl, Nat.le_refl _, ChsP.nil _ _ _ _ _, HB11.out.trans (BxKit.below_drewN (Below.refl _ _) _)⟩
end Go.Proofs.Ytolkghdeppoanaa.SwG
