/-
  Changes read, whatever the bytes are.
-/
import Derived.Test.YtolkghdeppoanaaSfE
import Derived.Test.YtolkghdeppoanaaRkS
set_option linter.unusedVariables false
set_option linter.unusedSimpArgs false
namespace Go.Proofs.Ytolkghdeppoanaa.SfF
open Go.RowKit Go.Proofs.Ytolkghdeppoanaa.BxD Go.Proofs.Ytolkghdeppoanaa.BxKit Go.Proofs.Ytolkghdeppoanaa.PkKit Go.Proofs.Ytolkghdeppoanaa.PkF Go.Proofs.Ytolkghdeppoanaa.SfB Go.Proofs.Ytolkghdeppoanaa.SfA Go.Proofs.Ytolkghdeppoanaa.SfR Go.Proofs.Ytolkghdeppoanaa.SfC Go.Proofs.Ytolkghdeppoanaa.SfE Go.Proofs.Ytolkghdeppoanaa.RkD Go.Proofs.Ytolkghdeppoanaa.RkK Go.Proofs.Ytolkghdeppoanaa.RkR Go.Proofs.Ytolkghdeppoanaa.RkS

/-- Changes that a call told: in new blocks. -/
def PaPost (p : List Ch × Nat) (w : World) (e : Ending) (w' : World) : Prop :=
  ∃ A m c, e = .returned (.tuple #[.slice A m c, .int .i64 (p.2 : Nat)]) ∧ m ≤ c ∧ ChsP w' 0 w.heap.size w'.heap.size A m p.1 ∧ Below w.heap.size w w'
def lenV : Value → Nat
  | .slice _ n _ => n
  | _ => 0
/-- A row stays where its block stays. -/
theorem own_block {w w' : World} {base e sz n : Nat} {v : Value} {xs : List Value} (h : w.ownsRow base e sz v n xs) (hb : ∀ g, v.ownBlock = some g → w'.heap[g]? = w.heap[g]?) : w'.ownsRow base e sz v n xs := by
  obtain ⟨h1, h2⟩ := h
  refine ⟨h1, ?_⟩
  rcases h2 with h2 | ⟨g', cap, cur, rfl, hb2, hg, r⟩
  · exact .inl h2
  · exact .inr ⟨g', cap, cur, rfl, hb2, (hb g' rfl).trans hg, r⟩
theorem own_up {w : World} {base base' e sz n : Nat} {v : Value} {xs : List Value} (h : w.ownsRow base e sz v n xs) (hb : ∀ g, v.ownBlock = some g → base' ≤ g) : w.ownsRow base' e sz v n xs := by
  obtain ⟨h1, h2⟩ := h
  refine ⟨h1, ?_⟩
  rcases h2 with h2 | ⟨g', cap, cur, rfl, hb2, r⟩
  · exact .inl h2
  · exact .inr ⟨g', cap, cur, rfl, hb g' rfl, r⟩
def DatOk (w : World) (lo : Nat) (r : RC) : Prop := ByT w r.r.A r.r.d.length r.r.d ∧ r.r.d.length ≤ r.r.c ∧ ∀ ad, r.r.A = some ad → lo ≤ ad.block
/-- In the midst of it. -/
structure Pp (w wr : World) (M R T : Nat) (s : Sr) (v : Value) (q : Nat) (rs : List RC) : Prop where
  bel : Below w.heap.size w wr
  rd : PRd wr R T s
  wR : w.heap.size ≤ R
  wT : w.heap.size ≤ T
  RM : R < M
  TM : T < M
  hM : M ≤ wr.heap.size
  own : wr.ownsRow M 42 3 v q (cc rs)
  dat : ∀ r ∈ rs, DatOk wr w.heap.size r
section
variable {w wr w2 : World} {M R T q : Nat} {s s' : Sr} {v : Value} {rs : List RC}
theorem ku_fr2 (h : PRd wr R T s) (hf : Fr2 R T wr w2) : Ku wr w2 := by
  intro k hk
  refine hf.block k (by obtain ⟨cs, fr, h1⟩ := hk; exact (Array.getElem?_eq_some_iff.1 h1).1) ?_ ?_
  · rintro rfl
    obtain ⟨cs, fr, h1⟩ := hk
    rw [h.blk] at h1
    injection h1 with h1
    injection h1 with _ e2
    exact absurd e2 (by decide)
  · rintro rfl
    obtain ⟨cs, fr, h1⟩ := hk
    obtain ⟨A, n, cp, hh, _⟩ := h.rd
    rw [hh] at h1
    injection h1 with h1
    injection h1 with _ e2
    exact absurd e2 (by decide)
theorem DatOk.ku {lo : Nat} {r : RC} (h : DatOk wr lo r) (hk : Ku wr w2) : DatOk w2 lo r := ⟨h.1.ku hk, h.2⟩
theorem Pp.keep (h : Pp w wr M R T s v q rs) (hf : Fr2 R T wr w2) (hr : PRd w2 R T s') : Pp w w2 M R T s' v q rs := by
  have h1 := h.RM
  have h2 := h.TM
  exact ⟨h.bel.trans (hf.to h.bel.size h.wR h.wT), hr, h.wR, h.wT, h.RM, h.TM, Nat.le_trans h.hM hf.size,
    own_block h.own (fun g e => hf.block g (h.own.lt g e).2 (by have := (h.own.lt g e).1; omega) (by have := (h.own.lt g e).1; omega)), fun r hr' => (h.dat r hr').ku (ku_fr2 h.rd hf)⟩
theorem Pp.go (h : Pp w wr M R T s v q rs) (hb : Below wr.heap.size wr w2) : Pp w w2 M R T s v q rs :=
  h.keep (Fr2.below hb R T) (h.rd.go hb)
/-- One more. -/
theorem Pp.more {v' : Value} {r : RC} (h : Pp w wr M R T s v q rs) (hr : DatOk wr w.heap.size r) (hown : w2.ownsRow M 42 3 v' (q + 1) (cc rs ++ cell3 r)) (hg : wr.grownBy w2 v.ownBlock) : Pp w w2 M R T s v' (q + 1) (rs ++ [r]) := by
  have h1 := h.RM
  have h2 := h.TM
  have hk : Ku wr w2 := (Ku.grown hg fun g e => by
    rcases h.own.2 with ⟨hv, _⟩ | ⟨g', cap, cur, hv, _, hgg, _⟩
    · rw [hv] at e; cases e
    · rw [hv] at e
      obtain rfl : g' = g := Option.some.inj e
      exact ⟨_, _, _, hgg, by decide⟩)
  have hne : ∀ k, k < M → v.ownBlock ≠ some k := fun k hk e => by have := (h.own.lt k e).1; omega
  refine ⟨h.bel.grown hg h.bel.size (fun g e => by have := (h.own.lt g e).1; have := h.wR; omega), ⟨(hg.block R h.rd.lt (fun e => hne R h1 e.symm)).trans h.rd.blk, ?_, h.rd.ne⟩, h.wR, h.wT, h.RM, h.TM, Nat.le_trans h.hM hg.size, ?_, ?_⟩
  · exact h.rd.rd.below (B := M) ⟨hg.os, hg.tape, hg.output, hg.size, fun k hk => hg.block k (Nat.lt_of_lt_of_le hk h.hM) (fun e => hne k hk e.symm)⟩ h2
  · rw [cc_append, show cc [r] = cell3 r by simp [cc]]
    exact hown
  · intro x hx
    rcases List.mem_append.1 hx with hx | hx
    · exact (h.dat x hx).ku hk
    · obtain rfl := List.mem_singleton.1 hx
      exact hr.ku hk
/-- What was read, told. -/
theorem Pp.tell {A : Option Addr} {c : Nat} (h : Pp w wr M R T s (.slice A q c) q rs) : ChsP wr 0 w.heap.size wr.heap.size A q (rs.map cOf) := by
  have hl := h.own.1
  rw [cc_length] at hl
  refine ⟨by rw [List.length_map]; omega, fun h0 => ?_⟩
  rcases h.own.2 with ⟨hv, hq⟩ | ⟨g, cap, cur, hv, hb, hg, _⟩
  · omega
  injection hv with hv
  subst hv
  have hMw := h.wR
  have hRM := h.RM
  refine ⟨_, rfl, .inr ⟨by show w.heap.size ≤ g; omega, (Array.getElem?_eq_some_iff.1 hg).1⟩, fun j c hj => ?_⟩
  rw [List.getElem?_map] at hj
  cases hx : rs[j]? with
  | none => rw [hx] at hj; cases hj
  | some x =>
    rw [hx] at hj
    obtain rfl : cOf x = c := Option.some.inj hj
    have hd := h.dat x (List.mem_of_getElem? hx)
    have hcell : ∀ f u, f < 3 → (cell3 x)[f]? = some u → wr.cell? (((⟨g, 0, none⟩ : Addr).add (j * 3)).add f) = some u := fun f u hf hu => by
      rw [BxKit.add_add]; exact h.own.cells (g := g) rfl _ _ ((cc_get rs j f _ hx hf).trans hu)
    have ea : ∀ (q : Addr) (f : Nat), q.add (f + 1) = fld q (f + 1) := fun q f => by unfold Addr.add fld; simp
    refine ⟨?_, ?_, x.r.A, x.r.c, ?_, hd.2.1, hd.1.1, fun h1 => ?_⟩
    · have := hcell 0 _ (by decide) rfl
      rwa [BxKit.add_add, Nat.add_zero] at this
    · have := hcell 1 _ (by decide) rfl
      rwa [ea _ 0] at this
    · have := hcell 2 _ (by decide) rfl
      rwa [ea _ 1] at this
    · obtain ⟨ad, e, hk, hc⟩ := hd.1.2 h1
      exact ⟨ad, e, .inr ⟨hd.2.2 ad e, by obtain ⟨cs, fr, h1⟩ := hk; exact (Array.getElem?_eq_some_iff.1 h1).1⟩, hc⟩
end
set_option maxHeartbeats 4000000 in
set_option maxRecDepth 100000 in
theorem parse_any {w : World} {B n cp : Nat} {A : Option Addr} {l : List UInt8} (h : BytesAt w B A n l) (hB : B ≤ w.heap.size) (hn : n ≤ 1000000000) : Calls Try.prog 11 #[.slice A n cp] w (PaPost (parse l) w) := by
  have KN := Lib.hid (new_p (cp := cp) h hB (by omega))
  have hln := h.1
  generalize hf0 : parse l = ans
  have HA0 := Lib.hid (show mid [] (parse l) = ans by rw [mid_nil]; exact hf0)
  clear h hf0
  go_enter Try.func11, Try.ntmps11
  go_wp2_with (go_at_call 29; go_loud (
     refine KN.out.mono ?_
     rintro e w1 ⟨R, T, rfl, hR, hT, hrd, hb⟩
     have P1 := Lib.hid (show Pp w w1 w1.heap.size R T (l, 0, false) (.slice none 0 0) 0 [] from
       ⟨hb, hrd, hR, hT, hrd.lt, hrd.rd.lt, Nat.le_refl _, World.ownsRow_nil _ _ _ _, fun r hr => by simp at hr⟩)
     clear hrd hb))
  generalize w1.heap.size = M at P1
  go_loopw [5] (fun s5 wr => ∃ (A : Option Addr) (q c : Nat) (rs : List RC) (l2 : List UInt8), s5 = .slice A q c ∧ q + l2.length ≤ n ∧ Hid (Pp w wr M R T (l2, 0, false) (.slice A q c) q rs) ∧ Hid (mid (rs.map cOf) (parse l2) = ans)) (fun s5 _ => n - lenV s5)
  case atStart => exact ⟨none, 0, 0, [], l, rfl, by omega, P1.out, HA0.out⟩
  case round =>
    clear P1 HA0
    obtain ⟨A, q, c, rs, l2, rfl, hq, P1, HA⟩ := hrel
    have KL := Lib.hid (left_p P1.out.rd)
    have b0 := P1.out.rd.cells.1
    cases l2 with
    | nil =>
      have HE := Lib.hid ((mid_end _).symm.trans HA.out)
      go_wp2_with (go_at_call 30; go_loud (
         refine KL.out.mono ?_
         rintro e w' ⟨rfl, rfl⟩))
      refine bodyPost_ret (v := .tuple #[.slice A q c, .int .i64 0]) (by simp [results, Try.results11, go_sem]) rfl ?_
      obtain ⟨A6, k6, e6, hk6⟩ := RkR.own_slice P1.out.own
      rw [← HE.out]
      exact ⟨A, q, c, rfl, by injection e6 with _ _ e6; omega, P1.out.tell, P1.out.bel⟩
    | cons a0 l3 =>
      obtain ⟨l2, hl2⟩ : ∃ l2, l2 = a0 :: l3 := ⟨_, rfl⟩
      have hne : l2 ≠ [] := by rw [hl2]; exact List.cons_ne_nil _ _
      have hk0 : 0 < l2.length := by rw [hl2]; simp
      rw [← hl2] at P1 HA KL hq
      obtain ⟨k, hk⟩ : ∃ k, k = l2.length := ⟨_, rfl⟩
      rw [← hk] at KL hk0 hq
      have HK := Lib.hid hk
      have HNE := Lib.hid hne
      have hki : 0 < (k : Int) := by omega
      have KR0 := read_any P1.out.rd
      obtain ⟨x, hx⟩ : ∃ x, x = (rdC (l2, 0, false)).1 := ⟨_, rfl⟩
      obtain ⟨s2, hs2⟩ : ∃ s2, s2 = (rdC (l2, 0, false)).2 := ⟨_, rfl⟩
      rw [← hx, ← hs2] at KR0
      have KR := Lib.hid KR0
      have HX := Lib.hid hx
      have HS2 := Lib.hid hs2
      clear KR0 hx hs2 hk hne hl2
      go_upto_region 4 with (go_at_call 30; go_loud (
         refine KL.out.mono ?_
         rintro e w' ⟨rfl, rfl⟩))
      go_upto_region 5 with (go_at_call 31; go_loud (
         refine KR.out.mono ?_
         rintro e w3 ⟨D, dc, rfl, hle, hby, hge, hr, hf⟩
         have P3 := Lib.hid (P1.out.keep hf hr)
         have HD3 := Lib.hid (show DatOk w3 w.heap.size ⟨x.name, x.cut, ⟨D, dc, x.data⟩⟩ from ⟨hby, hle, fun ad e => Nat.le_trans P1.out.bel.size (hge ad e)⟩)
         obtain ⟨m, hm⟩ : ∃ m, m = x.data.length := ⟨_, rfl⟩
         rw [← hm]
         have HM := Lib.hid hm
         clear hle hby hge hr hf hm b0))
      have P4 := Lib.hid (P3.out.go ((Below.refl _ _).alloc (Nat.le_refl _) (.cells #[.string x.name, .bool x.cut, .slice D m dc] 42)))
      have HD4 := Lib.hid (HD3.out.ku (Kp.alloc w3 (.cells #[.string x.name, .bool x.cut, .slice D m dc] 42)).ku)
      have HX4 := Lib.hid (heap_alloc_new w3 (.cells #[.string x.name, .bool x.cut, .slice D m dc] 42))
      obtain ⟨X, hXe⟩ : ∃ X, X = w3.heap.size := ⟨_, rfl⟩
      rw [← hXe] at HX4 ⊢
      clear hXe P1 P3 HD3 KR KL
      generalize (World.alloc w3 _) = w4 at P4 HD4 HX4 ⊢
      have KE := Lib.hid (err_p P4.out.rd)
      by_cases hz : firstS s2 = 0
      · rw [hz] at KE
        have hls := rd_less (l := l2) (by rw [← HS2.out]; exact hz)
        rw [← HS2.out, ← HK.out] at hls
        have HE := Lib.hid (show mid (rs.map cOf ++ [x]) (parse s2.1) = ans from by rw [HX.out, HS2.out]; exact (mid_step HNE.out (by rw [← HS2.out]; exact hz)).symm.trans HA.out)
        have hz2 : s2 = (s2.1, 0, false) := by
          obtain ⟨h1, h2⟩ := first_ok.1 hz
          exact Prod.ext rfl (Prod.ext h1 h2)
        obtain ⟨l4, hl4⟩ : ∃ l4, l4 = s2.1 := ⟨_, rfl⟩
        rw [← hl4] at HE hls hz2
        rw [hz2] at P4
        clear hz hz2 hl4 HS2 HX
        go_upto_region 8 with (go_at_call 32; go_loud (
           refine KE.out.mono ?_
           rintro e w' ⟨rfl, rfl⟩))
        clear KE
        have cX := fun o => cell_of_row w4 X o _ _ _ HX4.out
        have d0 := (cX 0).trans (show _ = some (Value.string x.name) from rfl)
        have d1 := (cX 1).trans (show _ = some (Value.bool x.cut) from rfl)
        have d2 := (cX 2).trans (show _ = some (Value.slice D m dc) from rfl)
        clear cX
        have O8 := Lib.hid (P4.out.own.alloc (.cells #[.string x.name, .bool x.cut, .slice D m dc] 42))
        have S8 := Lib.hid (src_new w4 #[.string x.name, .bool x.cut, .slice D m dc] 42 (b := w4.heap.size) (m := 1) (sz := 3) rfl rfl (by intro u hu; simp at hu; rcases hu with h | h | h <;> (subst h; rfl)))
        have Z8 := Lib.hid (show M ≤ (w4.alloc (.cells #[.string x.name, .bool x.cut, .slice D m dc] 42)).heap.size by have := P4.out.hM; simp; omega)
        go_wp2_with (at_builtin; go_loud (
           refine wpList_rows elC rfl _ _ rfl rfl rfl O8.out S8.out (by unfold maxLen; omega) (by omega) Z8.out ?_
           intro v9 w9 hown9 hg9 hat9
           obtain ⟨A9, k9, rfl, hk9⟩ := own_slice hown9
           have P9 := Lib.hid ((P4.out.go ((Below.refl _ _).alloc (Nat.le_refl _) (.cells #[.string x.name, .bool x.cut, .slice D m dc] 42))).more (r := ⟨x.name, x.cut, ⟨D, dc, x.data⟩⟩) (HD4.out.ku (Kp.alloc w4 (.cells #[.string x.name, .bool x.cut, .slice D m dc] 42)).ku) (by unfold cell3; simp only; rw [← HM.out]; exact hown9) hg9)
           clear hown9 hg9 hat9 d0 d1 d2))
        clear O8 S8 Z8
        go_roundw
        case rel => exact ⟨A9, q + 1, k9, rs ++ [⟨x.name, x.cut, ⟨D, dc, x.data⟩⟩], l4, rfl, by omega, P9, by
          show mid _ _ = _
          rw [List.map_append]
          exact HE.out⟩
        case measure => simp [lenV]; omega
      · obtain ⟨er, her⟩ : ∃ er, er = firstS s2 := ⟨_, rfl⟩
        have HE := Lib.hid (show ans = ([], er) from by rw [her, HS2.out]; exact HA.out.symm.trans (mid_bad HNE.out (by rw [← HS2.out]; exact hz)))
        rw [← her] at KE hz
        have hzi : ((er : Int) != 0) = true := by simpa using (by omega : ¬ (er : Int) = 0)
        clear her
        go_wp2_with (go_at_call 32; go_loud (
           refine KE.out.mono ?_
           rintro e w' ⟨rfl, rfl⟩))
        refine bodyPost_ret (v := .tuple #[.slice none 0 0, .int .i64 (er : Int)]) (by simp [results, Try.results11, go_sem]) rfl ?_
        rw [HE.out]
        exact ⟨none, 0, 0, rfl, Nat.le_refl _, ChsP.nil _ _ _ _ _, P4.out.bel⟩
end Go.Proofs.Ytolkghdeppoanaa.SfF
