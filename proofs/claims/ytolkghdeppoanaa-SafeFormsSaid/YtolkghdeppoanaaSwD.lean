/-
  The document's reader: numbers and texts, whatever the bytes are.
-/
import Derived.Test.YtolkghdeppoanaaSfB
import Derived.Test.YtolkghdeppoanaaJ1
import Derived.Test.YtolkghdeppoanaaBxKit
import Derived.Deep.QuietTactic
import Derived.BigQuiet
import Derived.Deep.DeepCutAuto
set_option linter.unusedVariables false
set_option linter.unusedSimpArgs false
namespace Go.Proofs.Ytolkghdeppoanaa.SwD
open Go.RowKit Go.Proofs.Ytolkghdeppoanaa.PkKit Go.Proofs.Ytolkghdeppoanaa.PkA Go.Proofs.Ytolkghdeppoanaa.PkD Go.Proofs.Ytolkghdeppoanaa.PkE Go.Proofs.Ytolkghdeppoanaa.SfB
open Go.Proofs.Ytolkghdeppoanaa.PkF (ptr grown_set grown_trans ne_int tz)

/-- A reader at block T: the bytes that are left, the error. -/
def RR (w : World) (T : Nat) (l : List UInt8) (er : Nat) : Prop :=
  ∃ A n cp, w.heap[T]? = some (.cells #[.slice A n cp, .int .i64 (er : Nat)] 68 (0, 0)) ∧ BytesAt w T A n l ∧ n ≤ cp ∧ n ≤ 140737488355328
set_option maxRecDepth 100000 in
theorem RR.lt {w : World} {T er : Nat} {l : List UInt8} (h : RR w T l er) : T < w.heap.size := by
  obtain ⟨A, n, cp, hh, _⟩ := h
  exact (Array.getElem?_eq_some_iff.1 hh).1
set_option maxRecDepth 100000 in
theorem RR.below {w w' : World} {T er B : Nat} {l : List UInt8} (h : RR w T l er) (hb : Below B w w') (hB : T < B) : RR w' T l er := by
  obtain ⟨A, n, cp, hh, hz, hc, hn⟩ := h
  exact ⟨A, n, cp, by rw [hb.block T hB]; exact hh, hz.below hb (by omega), hc, hn⟩
set_option maxRecDepth 100000 in
theorem RR.of_set {w : World} {T n cp er : Nat} {A : Option Addr} {l l0 : List UInt8} {e0 : Nat} (h : RR w T l0 e0) (hz : BytesAt w T A n l) (hc : n ≤ cp) (hb : n ≤ 140737488355328) :
    RR ((w.setCell ⟨T, 0, none⟩ (.slice A n cp)).setCell ⟨T, 1, none⟩ (.int .i64 (er : Nat))) T l er := by
  obtain ⟨A0, n0, cp0, hh, _⟩ := h
  refine ⟨A, n, cp, ?_, (hz.setCell (p := ⟨T, 0, none⟩) (Nat.le_refl _) _).setCell (p := ⟨T, 1, none⟩) (Nat.le_refl _) _, hc, hb⟩
  simp [World.setCell, Array.getElem?_modify, hh]
set_option maxRecDepth 100000 in
theorem RR.of_rest {w : World} {T n cp er : Nat} {A : Option Addr} {l l0 : List UInt8} (h : RR w T l0 er) (hz : BytesAt w T A n l) (hc : n ≤ cp) (hb : n ≤ 140737488355328) :
    RR (w.setCell ⟨T, 0, none⟩ (.slice A n cp)) T l er := by
  obtain ⟨A0, n0, cp0, hh, _⟩ := h
  refine ⟨A, n, cp, ?_, hz.setCell (p := ⟨T, 0, none⟩) (Nat.le_refl _) _, hc, hb⟩
  simp [World.setCell, Array.getElem?_modify, hh]
set_option maxRecDepth 100000 in
theorem RR.of_err {w : World} {T er : Nat} {l : List UInt8} {e0 : Nat} (h : RR w T l e0) : RR (w.setCell ⟨T, 1, none⟩ (.int .i64 (er : Nat))) T l er := by
  obtain ⟨A, n, cp, hh, hz, hc, hn⟩ := h
  refine ⟨A, n, cp, ?_, hz.setCell (p := ⟨T, 1, none⟩) (Nat.le_refl _) _, hc, hn⟩
  simp [World.setCell, Array.getElem?_modify, hh]
set_option maxRecDepth 100000 in
/-- What a walk reads of it. -/
theorem RR.cells {w : World} {T er : Nat} {l : List UInt8} (h : RR w T l er) : ∃ A n cp, l.length = n ∧ (n ≤ cp ∧ n ≤ 140737488355328) ∧ w.cell? ⟨T, 0, none⟩ = some (.slice A n cp) ∧ w.cell? ⟨T, 1, none⟩ = some (.int .i64 (er : Nat)) ∧
    w.frozen? ⟨T, 0, none⟩ = false ∧ w.frozen? ⟨T, 1, none⟩ = false ∧ BytesAt w T A n l := by
  obtain ⟨A, n, cp, hh, hz, hc, hn⟩ := h
  refine ⟨A, n, cp, hz.1, ⟨hc, hn⟩, ?_, ?_, ?_, ?_, hz⟩
  · rw [cell_of_row w T 0 _ 68 _ hh]; rfl
  · rw [cell_of_row w T 1 _ 68 _ hh]; rfl
  · simp [World.frozen?, hh]
  · simp [World.frozen?, hh]


set_option maxHeartbeats 4000000 in
set_option maxRecDepth 100000 in
theorem number_any {w : World} {T er : Nat} {l : List UInt8} (h : RR w T l er) : Calls Try.prog 57 #[ptr T] w (PP w (ps l)) := by
  obtain ⟨A, n, cp, hl, ⟨hcp, hnb⟩, h0, h1, f0, f1, hz⟩ := h.cells
  have HL := Lib.hid hl
  have H := Lib.hid hz
  clear h hl hz
  go_enter Try.func57, Try.ntmps57
  go_wp2_with fail
  go_loop [5, 8] (fun s5 s8 => ∃ (k X : Nat), k ≤ 6 ∧ k ≤ n ∧ s8 = .int .i64 k ∧ s5 = .int .i64 X ∧ Hid (X < 128 ^ k) ∧ Hid (ps l = pz k X (l.drop k))) (fun _ s8 => 6 - (intOf s8).toNat)
  case atStart => exact ⟨0, 0, by omega, by omega, rfl, rfl, (by decide : 0 < 128 ^ 0), rfl⟩
  case round =>
    obtain ⟨k, X, hk, hkn, rfl, rfl, HX, HS⟩ := hrel
    by_cases h6 : k = 6
    · subst h6
      go_wp2_with fail
      go_ret3
      exact pp_of (HS.out.trans (pz_end6 _ _))
    · by_cases hkl : k = n
      · subst hkl
        go_wp2_with fail
        go_ret3
        exact pp_of (HS.out.trans (by rw [List.drop_eq_nil_of_le (by rw [HL.out]; exact Nat.le_refl _)]; exact pz_none h6))
      · obtain ⟨ad, c, rfl, hc, hcell⟩ := H.out.at_ (show k < n by omega)
        have hand := i64_and127 (c.toNat : Int)
        have hlt := c.toNat_lt
        have hor := or_shl (show k < 6 by omega) HX.out c
        have hd : l.drop k = c :: l.drop (k + 1) := by
          obtain ⟨hl, e⟩ := List.getElem?_eq_some_iff.1 hc
          rw [List.drop_eq_getElem_cons hl, e]
        rw [hd] at HS
        obtain ⟨Y, hY⟩ : ∃ Y, Y = X + c.toNat % 128 * 128 ^ k := ⟨_, rfl⟩
        rw [← hY] at hor
        have HY := Lib.hid hY
        have H6 := Lib.hid h6
        have hk6 : (k : Int) < 6 := by omega
        clear hY hc hd
        by_cases h8 : 128 ≤ c.toNat
        · have H8 := Lib.hid h8
          have h8i : (128 : Int) ≤ (c.toNat : Int) := by omega
          go_wp2_with fail
          go_round
          case rel =>
            refine ⟨k + 1, Y, by omega, by omega, by go_num, rfl, ?_, HS.out.trans (by rw [pz_more H6.out H8.out, HY.out])⟩
            have hx := HX.out
            have hm : c.toNat % 128 * 128 ^ k ≤ 127 * 128 ^ k := Nat.mul_le_mul_right _ (by omega)
            show Y < 128 ^ (k + 1)
            rw [HY.out, Nat.pow_succ]
            omega
          case measure => simp [intOf]; omega
        · have H8 := Lib.hid h8
          have h8i : (c.toNat : Int) < 128 := by omega
          have hY2 : Y = X + c.toNat * 128 ^ k := by rw [HY.out, Nat.mod_eq_of_lt (by omega)]
          have HY2 := Lib.hid hY2
          clear hY2 HY HX
          by_cases hz : (0 < k ∧ c.toNat = 0) ∨ 1099511627776 < Y
          · have hp : ps l = (0, 0, 3) := HS.out.trans (pz_bad H6.out H8.out (by rw [← HY2.out]; exact hz))
            have HP := Lib.hid hp
            clear hp
            go_wp2_with fail
            all_goals first
              | (go_ret3; exact pp_of HP.out)
              | (exfalso; simp_all; done)
              | (exfalso; omega)
          · have hp : ps l = (Y, k + 1, 0) := HS.out.trans (by rw [HY2.out]; exact pz_good H6.out H8.out (by rw [← HY2.out]; exact hz))
            have HP := Lib.hid hp
            clear hp
            by_cases hk0 : 0 < k
            · have hce : ((c.toNat : Int) == 0) = false := by rw [beq_eq_false_iff_ne]; omega
              have hcn : ¬ c.toNat = 0 := by omega
              have hy : (Y : Int) ≤ 1099511627776 := by omega
              clear hz
              go_wp2_with fail
              go_ret3
              exact pp_of HP.out
            · have hy : (Y : Int) ≤ 1099511627776 := by omega
              clear hz
              go_wp2_with fail
              all_goals first
                | (go_ret3; exact pp_of HP.out)
                | (exfalso; simp_all; done)
                | (exfalso; omega)

set_option maxRecDepth 100000 in
theorem fail_any {w : World} {T : Nat} {l : List UInt8} (h : RR w T l 0) (er : Nat) : Calls Try.prog 58 #[ptr T, .int .i64 (er : Nat)] w fun e w' => e = .returned (.tuple #[]) ∧ RR w' T l er ∧ w.grownBy w' (some T) := by
  obtain ⟨A, n, cp, hl, ⟨hcp, hnb⟩, h0, h1, f0, f1, hz⟩ := h.cells
  rw [show (((0 : Nat) : Int)) = 0 from rfl] at h1
  have H := Lib.hid h
  clear h hz
  go_enter Try.func58, Try.ntmps58
  go_wp2_with fail
  go_end0
  exact ⟨rfl, H.out.of_err, grown_set _⟩

/-- What a reader's call tells and leaves. -/
def RP (w : World) (T : Nat) (x : Value) (s : Sr) (e : Ending) (w' : World) : Prop := e = .returned x ∧ RR w' T s.1 s.2.1 ∧ w.grownBy w' (some T)
set_option maxRecDepth 100000 in
theorem addk (A : Option Addr) (k : Nat) (hk : k ≠ 0) : A.map (·.add k) = A.map (fun x => { block := x.block, off := x.off + k }) := by
  congr 1
  funext x
  simp [Addr.add, hk]
set_option maxHeartbeats 4000000 in
set_option maxRecDepth 100000 in
theorem text_any {w : World} {T : Nat} {s : Sr} (h : RR w T s.1 s.2.1) (m : Int) : Calls Try.prog 34 #[ptr T, .int .i64 m] w (RP w T (.string (txtS m s).1) (txtS m s).2) := by
  obtain ⟨l, er0, ov⟩ := s
  obtain ⟨A, n, cp, hl, ⟨hcp, hnb⟩, h0, h1, f0, f1, hz⟩ := h.cells
  simp only at hl h0 h1 f0 f1 hz
  have H := Lib.hid h
  by_cases he : er0 = 0
  · subst he
    rw [show (((0 : Nat) : Int)) = 0 from rfl] at h1
    have HP := Lib.hid (number_any H.out)
    unfold txtS
    rw [if_neg (by simp)]
    simp only
    have hle := ps_le l
    rw [hl] at hle
    have HL := Lib.hid hl
    have HZ := Lib.hid hz
    have hps : ((ps l).2.2 = 0 ∧ (ps l).1 ≤ 1099511627776 ∧ (ps l).2.1 ≤ 6) ∨ (ps l).2.2 ≠ 0 := by
      by_cases h0 : (ps l).2.2 = 0
      · obtain ⟨y, r, _, e2, e3, e4⟩ := ps_ok h0
        exact .inl ⟨h0, by rw [e2]; exact e3, by rw [e2]; exact e4⟩
      · exact .inr h0
    unfold tz
    simp only at HP
    obtain ⟨x, sz, er, ht⟩ : ∃ x sz er, ps l = (x, sz, er) := ⟨_, _, _, rfl⟩
    rw [ht] at hle HP hps ⊢
    simp only at hle hps ⊢
    clear h hz hl ht
    by_cases her : er = 0
    · have hps2 : x ≤ 1099511627776 ∧ sz ≤ 6 := by
        rcases hps with h | h
        · exact h.2
        · exact absurd her h
      subst her
      rw [if_neg (by simp)]
      obtain ⟨hx, hsz⟩ := hps2
      clear hps
      by_cases hm : m < x
      · rw [if_pos hm]
        have HF := Lib.hid (fail_any H.out 3)
        go_enter Try.func34, Try.ntmps34
        go_wp2_with fail
        refine HP.out.mono ?_
        rintro e w' ⟨rfl, rfl⟩
        go_wp2_with fail
        refine HF.out.mono ?_
        rintro e w' ⟨rfl, hr, hg⟩
        go_wp2_with fail
        go_ret
        exact ⟨rfl, hr, hg⟩
      · rw [if_neg hm]
        by_cases hs : n < sz + x
        · rw [if_pos (by rw [HL.out]; exact hs)]
          have hs2 : (n : Int) - (sz : Int) < (x : Int) := by omega
          have hm2 : (x : Int) ≤ m := by omega
          clear hm hs
          have HF := Lib.hid (fail_any H.out 2)
          go_enter Try.func34, Try.ntmps34
          go_wp2_with fail
          refine HP.out.mono ?_
          rintro e w' ⟨rfl, rfl⟩
          go_wp2_with fail
          refine HF.out.mono ?_
          rintro e w' ⟨rfl, hr, hg⟩
          go_wp2_with fail
          go_ret
          exact ⟨rfl, hr, hg⟩
        · rw [if_neg (by rw [HL.out]; exact hs)]
          have hs2 : (x : Int) ≤ (n : Int) - (sz : Int) := by omega
          have hm2 : (x : Int) ≤ m := by omega
          have g1 : (sz : Int) + (x : Int) ≤ (n : Int) := by omega
          have g2 : (sz : Int) + (x : Int) ≤ (cp : Int) := by omega
          have g3 : (sz : Int) ≤ (sz : Int) + (x : Int) := by omega
          have g4 : (0 : Int) ≤ (sz : Int) + (x : Int) := by omega
          have gw : IntKind.i64.wrap ((sz : Int) + (x : Int)) = (sz : Int) + (x : Int) := by rw [IntKind.wrap_i64]; omega
          have hmid := (HZ.out.take (k := sz + x) (by omega)).cut (k := sz) (cp := cp) (by omega) (by omega)
          rw [show sz + x - sz = x by omega, List.drop_take, show sz + x - sz = x by omega] at hmid
          have hcut := HZ.out.cut (k := sz + x) (cp := cp) (by omega) hcp
          have HC := Lib.hid hcut
          clear hm hs hcut
          by_cases hcs : cp = sz + x
          · rw [if_pos hcs, show n - (sz + x) = 0 by omega] at HC
            by_cases hcz : cp = sz
            · obtain rfl : x = 0 := by omega
              rw [if_pos hcz] at hmid
              obtain rfl : cp = n := by omega
              subst hcz
              clear hcs
              have hcv := hmid.conv 0
              clear hmid
              go_enter Try.func34, Try.ntmps34
              go_wp2_with fail
              refine HP.out.mono ?_
              rintro e w' ⟨rfl, rfl⟩
              go_wp2_with fail
              go_ret
              exact ⟨rfl, H.out.of_rest HC.out (by omega) (by omega), grown_set _⟩
            · rw [if_neg hcz] at hmid
              subst hcs
              have hcv := hmid.conv x
              clear hmid
              go_enter Try.func34, Try.ntmps34
              go_wp2_with fail
              refine HP.out.mono ?_
              rintro e w' ⟨rfl, rfl⟩
              go_wp2_with fail
              go_ret
              exact ⟨rfl, H.out.of_rest HC.out (by omega) (by omega), grown_set _⟩
          · rw [if_neg hcs] at HC
            rw [if_neg (show ¬ cp = sz by omega)] at hmid
            have hcv := hmid.conv (cp - sz)
            have hcn : ¬ cp = sz := by omega
            clear hmid
            go_enter Try.func34, Try.ntmps34
            go_wp2_with fail
            refine HP.out.mono ?_
            rintro e w' ⟨rfl, rfl⟩
            go_wp2_with fail
            go_ret
            exact ⟨rfl, H.out.of_rest HC.out (by omega) (by omega), grown_set _⟩
    · rw [if_pos her]
      have hne := ne_int her
      have HF := Lib.hid (fail_any H.out er)
      clear hps
      go_enter Try.func34, Try.ntmps34
      go_wp2_with fail
      refine HP.out.mono ?_
      rintro e w' ⟨rfl, rfl⟩
      go_wp2_with fail
      refine HF.out.mono ?_
      rintro e w' ⟨rfl, hr, hg⟩
      go_wp2_with fail
      go_ret
      exact ⟨rfl, hr, hg⟩
  · have hne := ne_int he
    have hx : txtS m (l, er0, ov) = (⟨#[]⟩, (l, er0, ov)) := by unfold txtS; rw [if_pos he]
    rw [hx]
    clear h hz hx
    go_enter Try.func34, Try.ntmps34
    go_wp2_with fail
    go_ret
    exact ⟨rfl, H.out, World.grownBy.refl _ _⟩
set_option maxHeartbeats 4000000 in
set_option maxRecDepth 100000 in
theorem Number_any {w : World} {T : Nat} {s : Sr} (h : RR w T s.1 s.2.1) : Calls Try.prog 33 #[ptr T] w (RP w T (.int .i64 ((numV s).1 : Nat)) (numV s).2) := by
  obtain ⟨l, er0, ov⟩ := s
  obtain ⟨A, n, cp, hl, ⟨hcp, hnb⟩, h0, h1, f0, f1, hz⟩ := h.cells
  simp only at hl h0 h1 f0 f1 hz
  have H := Lib.hid h
  by_cases he : er0 = 0
  · subst he
    rw [show (((0 : Nat) : Int)) = 0 from rfl] at h1
    have HP := Lib.hid (number_any H.out)
    unfold numV
    rw [if_neg (by simp)]
    simp only
    have hle := ps_le l
    rw [hl] at hle
    have HZ := Lib.hid hz
    have hbad : (ps l).2.2 ≠ 0 → (ps l).1 = 0 ∧ (ps l).2.1 = 0 := fun h => by rcases ps_err h with e | e <;> rw [e] <;> exact ⟨rfl, rfl⟩
    simp only at HP
    obtain ⟨x, sz, er, ht⟩ : ∃ x sz er, ps l = (x, sz, er) := ⟨_, _, _, rfl⟩
    rw [ht] at hle HP hbad ⊢
    simp only at hle hbad ⊢
    clear h hz hl ht
    by_cases her : er = 0
    · subst her
      clear hbad
      have hcut := HZ.out.cut (k := sz) (cp := cp) (by omega) hcp
      have hi : (sz : Int) ≤ (n : Int) := by omega
      by_cases hcs : cp = sz
      · rw [if_pos hcs, show n - sz = 0 by omega] at hcut
        have HC := Lib.hid hcut
        subst hcs
        clear hcut
        go_enter Try.func33, Try.ntmps33
        go_wp2_with fail
        refine HP.out.mono ?_
        rintro e w' ⟨rfl, rfl⟩
        go_wp2_with fail
        go_ret
        exact ⟨rfl, H.out.of_rest HC.out (by omega) (by omega), grown_set _⟩
      · rw [if_neg hcs] at hcut
        have HC := Lib.hid hcut
        clear hcut
        go_enter Try.func33, Try.ntmps33
        go_wp2_with fail
        refine HP.out.mono ?_
        rintro e w' ⟨rfl, rfl⟩
        go_wp2_with fail
        go_ret
        exact ⟨rfl, H.out.of_rest HC.out (by omega) (by omega), grown_set _⟩
    · obtain ⟨rfl, rfl⟩ := hbad her
      have hne := ne_int her
      have HF := Lib.hid (fail_any H.out er)
      go_enter Try.func33, Try.ntmps33
      go_wp2_with fail
      refine HP.out.mono ?_
      rintro e w' ⟨rfl, rfl⟩
      go_wp2_with fail
      refine HF.out.mono ?_
      rintro e w1 ⟨rfl, hr, hg⟩
      go_wp2_with fail
      go_ret
      exact ⟨rfl, hr, hg⟩
  · have hne := ne_int he
    rw [show numV (l, er0, ov) = (0, (l, er0, ov)) by unfold numV; rw [if_pos he]]
    clear h hz
    go_enter Try.func33, Try.ntmps33
    go_wp2_with fail
    go_ret
    exact ⟨rfl, H.out, World.grownBy.refl _ _⟩
end Go.Proofs.Ytolkghdeppoanaa.SwD
