/-
  All made sure; a write that goes through, unless the fuse takes the power.
-/
import Derived.Test.YtolkghdeppoanaaRkN
set_option linter.unusedVariables false
set_option linter.unusedSimpArgs false
namespace Go.Proofs.Ytolkghdeppoanaa.RkV
open Go.RowKit Go.Proofs.Ytolkghdeppoanaa.BxD Go.Proofs.Ytolkghdeppoanaa.BxKit Go.Proofs.Ytolkghdeppoanaa.RkO Go.Proofs.Ytolkghdeppoanaa.RkC Go.Proofs.Ytolkghdeppoanaa.RkD Go.Proofs.Ytolkghdeppoanaa.RkR Go.Proofs.Ytolkghdeppoanaa.RkK Go.Proofs.Ytolkghdeppoanaa.RkP Go.Proofs.Ytolkghdeppoanaa.RkQ Go.Proofs.Ytolkghdeppoanaa.RkE Go.Proofs.Ytolkghdeppoanaa.RkS Go.Proofs.Ytolkghdeppoanaa.RkM Go.Proofs.Ytolkghdeppoanaa.RkN

def seS (s : St) (nx : List F) : St := { s with sure := nx, files := nx, loose := [] }
section
variable {w : World} {base T : Nat} {s : St} {SA FA LA : Option Addr} {sn sc fn fcp ln lc : Nat}
set_option maxRecDepth 100000 in
set_option maxHeartbeats 1000000 in
theorem settle_any (h : Rk w base T s SA sn sc FA fn fcp LA ln lc) {NA : Option Addr} {nn nc : Nat} {nx : List F} (hx : FilesT w NA nn nx) (hc : nn ≤ nc) :
    Calls Try.prog 49 #[ptr T, .slice NA nn nc] w (RkPost w base T LA (seS s nx) (.returned (.tuple #[]))) := by
  have HFr := Lib.hid (show Fr w (((w.setCell ⟨T, 1, none⟩ (.slice NA nn nc)).setCell ⟨T, 2, none⟩ (.slice NA nn nc)).setCell ⟨T, 3, none⟩ (.slice none 0 0)) T LA from (((Fr.of (Below.refl _ _)).set 1 _).set 2 _).set 3 _)
  have HP := Lib.hid (show RkPost w base T LA (seS s nx) (.returned (.tuple #[])) (.returned (.tuple #[])) (((w.setCell ⟨T, 1, none⟩ (.slice NA nn nc)).setCell ⟨T, 2, none⟩ (.slice NA nn nc)).setCell ⟨T, 3, none⟩ (.slice none 0 0)) from
    ⟨rfl, none, ⟨NA, nn, nc, NA, nn, nc, 0, 0, h.turn HFr.out (((h.head.stored 1 _).stored 2 _).stored 3 _) hx hc hx hc (LooseAt.nil _ _)⟩, HFr.out, fun ad e => by cases e⟩)
  obtain ⟨c0, c1, c2, c3, c4, c5, c6, c7, cf⟩ := h.cells rfl
  have f1 := cf 1
  have f2 := cf 2
  have f3 := cf 3
  clear h cf hx
  unfold ptr
  go_enter Try.func49, Try.ntmps49
  go_wp2
  go_end0
  exact HP.out
set_option maxRecDepth 100000 in
set_option maxHeartbeats 1000000 in
theorem flush_any (h : Rk w base T s SA sn sc FA fn fcp LA ln lc) :
    Calls Try.prog 42 #[ptr T] w (RkPost w base T LA (flS s) (.returned (.int .i64 (flE s)))) := by
  unfold flS flE
  cases hd : s.down with
  | true =>
    simp only [if_true]
    have HP := Lib.hid (RkPost.same h (Below.refl _ _) (.returned (.int .i64 5)))
    obtain ⟨c0, c1, c2, c3, c4, c5, c6, c7, cf⟩ := h.cells rfl
    rw [hd] at c5
    clear h cf hd
    unfold ptr
    go_enter Try.func42, Try.ntmps42
    go_wp2
    go_ret
    exact HP.out
  | false =>
    rw [if_neg (by decide), if_neg (by decide)]
    have KS := Lib.hid (settle_any h h.files h.fcap)
    obtain ⟨c0, c1, c2, c3, c4, c5, c6, c7, cf⟩ := h.cells rfl
    rw [hd] at c5
    clear h cf
    unfold ptr at *
    unfold seS at KS
    go_enter Try.func42, Try.ntmps42
    go_wp2_with (go_at_call 49; go_loud (refine KS.out.mono ?_; rintro e w1 ⟨rfl, g⟩; have HG := Lib.hid g; clear g))
    go_ret
    rw [hd] at HG
    exact ⟨rfl, HG.out⟩

set_option maxRecDepth 100000 in
/-- A loose write more. -/
theorem LooseAt.more {w w6 : World} {base n : Nat} {l : List Ch} {r : RC} {v : Value} {rs : List RC} (e : rs.map cOf = l) (hd : ∀ q ∈ rs, ByT w q.r.A q.r.d.length q.r.d ∧ q.r.d.length ≤ q.r.c) (hr : ByT w r.r.A r.r.d.length r.r.d ∧ r.r.d.length ≤ r.r.c)
    (hown : w6.ownsRow base 42 3 v (n + 1) (cc rs ++ cell3 r)) (hk : Ku w w6) : ∃ A' c', v = .slice A' (n + 1) c' ∧ LooseAt w6 base A' (n + 1) c' (l ++ [cOf r]) := by
  obtain ⟨A', c', rfl, _⟩ := RkR.own_slice hown
  refine ⟨A', c', rfl, rs ++ [r], by rw [List.map_append, e]; rfl, ?_, fun q hq => ?_⟩
  · rw [cc_append, show cc [r] = cell3 r by simp [cc]]; exact hown
  · rcases List.mem_append.1 hq with hq | hq
    · exact ⟨(hd q hq).1.ku hk, (hd q hq).2⟩
    · obtain rfl := List.mem_singleton.1 hq
      exact ⟨hr.1.ku hk, hr.2⟩
set_option maxRecDepth 100000 in
theorem own_ty3 {w : World} {base n : Nat} {v : Value} {xs : List Value} (h : w.ownsRow base 42 3 v n xs) : ∀ g, v.ownBlock = some g → ∃ cs t fr, w.heap[g]? = some (.cells cs t fr) ∧ t ≠ 44 ∧ t ≠ 5 := by
  intro g hg
  rcases h.2 with ⟨rfl, _⟩ | ⟨g', cap, cur, rfl, hb, hgg, _⟩
  · cases hg
  · obtain rfl : g' = g := Option.some.inj hg
    exact ⟨_, _, _, hgg, by decide, by decide⟩
set_option maxRecDepth 100000 in
theorem own_no {w : World} {base n T : Nat} {v : Value} {xs l : List Value} (h : w.ownsRow base 42 3 v n xs) (hT : Row w T 74 l) : v.ownBlock ≠ some T := by
  intro hg
  rcases h.2 with ⟨rfl, _⟩ | ⟨g', cap, cur, rfl, hb, hgg, _⟩
  · cases hg
  · obtain rfl : g' = T := Option.some.inj hg
    unfold Row at hT
    rw [hgg] at hT
    injection hT with hT
    injection hT with _ e
    exact absurd e (by decide)
set_option maxRecDepth 100000 in
theorem own_at {w : World} {base e sz m n c : Nat} {ad : Addr} {xs : List Value} (h : w.ownsRow base e sz (.slice (some ad) n c) m xs) : (Value.slice (some ad) n c).ownBlock = some ad.block := by
  rcases h.2 with ⟨hv, _⟩ | ⟨g, cap, cur, hv, _⟩
  · cases hv
  · cases hv; rfl
set_option maxRecDepth 100000 in
/-- What stands ahead of the append, and what it leaves, all in one: the rest of a write that goes through. -/
theorem Rk.wrote {w W1 w6 : World} {base T : Nat} {s : St} {SA FA LA NA : Option Addr} {sn sc fn fcp ln lc nn nc : Nat} (h : Rk w base T s SA sn sc FA fn fcp LA ln lc) {rs : List RC} {r : RC} {v : Value} {nx : List F} {b7 : Bool} {f7 : Option Nat} {o : Obj}
    (hl : rs.map cOf = s.loose) (hown : w.ownsRow base 42 3 (.slice LA ln lc) ln (cc rs)) (hd : ∀ q ∈ rs, ByT w q.r.A q.r.d.length q.r.d ∧ q.r.d.length ≤ q.r.c) (hr : ByT w r.r.A r.r.d.length r.r.d ∧ r.r.d.length ≤ r.r.c)
    (hx : FilesT w NA nn nx) (hc : nn ≤ nc) (hF1 : Fr w W1 T LA) (hR1 : Row W1 T 74 [.int .i64 s.room, .slice SA sn sc, .slice NA nn nc, .slice LA ln lc, .int .i64 s.writes, .bool s.down, .bool b7, .int .i64 (fuseV f7)]) (hb7 : f7.isSome = b7)
    (hO1 : W1.ownsRow base 42 3 (.slice LA ln lc) ln (cc rs))
    (h6 : w6.ownsRow base 42 3 v (ln + 1) (cc rs ++ cell3 r)) (g6 : (W1.alloc o).grownBy w6 (Value.slice LA ln lc).ownBlock) (hv : v.ownBlock = (Value.slice LA ln lc).ownBlock ∨ v.ownBlock = some (W1.alloc o).heap.size) (z : Int) (hz : z = ((s.writes + 1 : Nat) : Int)) :
    RkPost w base T LA { s with files := nx, loose := s.loose ++ [cOf r], writes := s.writes + 1, fuse := f7 } (.returned (.int .i64 0)) (.returned (.int .i64 0)) ((w6.setCell { block := T, off := 3 } v).setCell { block := T, off := 4 } (.int .i64 z)) := by
  subst hz
  have hO1' := hO1.alloc o
  have hT1 : T < (W1.alloc o).heap.size := by have := hR1.lt; simp; omega
  have hb6 : w6.heap[T]? = (W1.alloc o).heap[T]? := g6.block T hT1 (fun e => own_no hO1' (hR1.alloc o) e.symm)
  have hR6 := (hR1.alloc o).same hb6
  have hF6 : Fr w w6 T LA := (hF1.alloc o).grown g6 fun k e hk => by
    cases LA with
    | none => cases e
    | some ad =>
      have e2 : some ad.block = some k := (own_at hown).symm.trans e
      exact .inr ⟨_, rfl, (Option.some.inj e2).symm⟩
  have hku : Ku w w6 := ((h.kp (hF1.alloc o))).ku.trans (Ku.grown g6 fun g e => by obtain ⟨cs, t, fr, q1, q2, q3⟩ := own_ty3 hO1' g e; exact ⟨cs, t, fr, q1, q3⟩)
  obtain ⟨A', c', rfl, hL6⟩ := LooseAt.more hl hd hr h6 hku
  have hF8 : Fr w ((w6.setCell { block := T, off := 3 } (.slice A' (ln + 1) c')).setCell { block := T, off := 4 } (.int .i64 ((s.writes + 1 : Nat) : Int))) T LA := (hF6.set 3 _).set 4 _
  refine ⟨rfl, A', ⟨SA, sn, sc, NA, nn, nc, ln + 1, c', h.turn hF8 ?_ h.sure h.scap hx hc ?_⟩, hF8, fun ad e => ?_⟩
  · have := (hR6.stored 3 (.slice A' (ln + 1) c')).stored 4 (.int .i64 ((s.writes + 1 : Nat) : Int))
    rw [← hb7] at this
    exact this
  · have k1 := Kp.setCell hR6 (by decide) (by decide) 3 (.slice A' (ln + 1) c')
    have k2 := Kp.setCell (hR6.stored 3 (.slice A' (ln + 1) c')) (by decide) (by decide) 4 (.int .i64 ((s.writes + 1 : Nat) : Int))
    refine hL6.keep (k1.trans k2) (RkO.grown_trans (setCell_grown w6 ⟨T, 3, none⟩ _) (setCell_grown _ ⟨T, 4, none⟩ _)) fun ad e e2 => ?_
    obtain ⟨_, _, cs, q⟩ := hL6.blk e
    have e3 : T = ad.block := Option.some.inj e2
    rw [← e3] at q
    unfold Row at hR6
    rw [q] at hR6
    injection hR6 with hR6
    injection hR6 with _ e4
    exact absurd e4 (by decide)
  · subst e
    rw [own_at h6] at hv
    rcases hv with hv | hv
    · right
      cases LA with
      | none => cases hv
      | some ad2 =>
        rw [own_at hown] at hv
        exact ⟨_, rfl, Option.some.inj hv⟩
    · left
      have := Option.some.inj hv
      have hs := hF1.size
      rw [this]; simp; omega
end
end Go.Proofs.Ytolkghdeppoanaa.RkV
