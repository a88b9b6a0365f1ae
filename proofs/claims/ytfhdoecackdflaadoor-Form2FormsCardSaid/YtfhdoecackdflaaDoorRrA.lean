/-
  The document's reader: what it reads, byte by byte: number, fail, Fixed, Byte, Text.
-/
import Derived.Test.YtfhdoecackdflaaDoorJ1
import Derived.Test.YtfhdoecackdflaaDoorOlD
import Derived.Test.YtfhdoecackdflaaDoorBxKit
import Derived.Deep.QuietTactic
import Derived.BigQuiet
import Derived.Deep.DeepCutAuto
set_option linter.unusedVariables false
set_option linter.unusedSimpArgs false
namespace Go.Proofs.YtfhdoecackdflaaDoor.RrA
open Go.RowKit Go.Proofs.YtfhdoecackdflaaDoor.PkKit Go.Proofs.YtfhdoecackdflaaDoor.PkA Go.Proofs.YtfhdoecackdflaaDoor.PkD Go.Proofs.YtfhdoecackdflaaDoor.PkE Go.Proofs.YtfhdoecackdflaaDoor.OlD
open Go.Proofs.YtfhdoecackdflaaDoor.PkF (ptr grown_set grown_trans ne_int tz)
open Go.Proofs.YtfhdoecackdflaaDoor.PkG (be be_snoc be_lt or_low)

/-- A reader at block T: the bytes that are left, the error. -/
def RR (w : World) (T : Nat) (l : List UInt8) (er : Nat) : Prop :=
  ∃ A n cp, w.heap[T]? = some (.cells #[.slice A n cp, .int .i64 (er : Nat)] 57 (0, 0)) ∧ BytesAt w T A n l ∧ n ≤ cp ∧ n ≤ 140737488355328
set_option maxRecDepth 100000 in
theorem RR.lt {w : World} {T er : Nat} {l : List UInt8} (h : RR w T l er) : T < w.heap.size := by
  obtain ⟨A, n, cp, hh, _⟩ := h
  exact (Array.getElem?_eq_some_iff.1 hh).1
set_option maxRecDepth 100000 in
theorem RR.below {w w' : World} {T er B : Nat} {l : List UInt8} (h : RR w T l er) (hb : Below B w w') (hB : T < B) : RR w' T l er := by
  obtain ⟨A, n, cp, hh, hz, hc, hn⟩ := h
  exact ⟨A, n, cp, by rw [hb.block T hB]; exact hh, hz.below hb (by omega), hc, hn⟩
set_option maxRecDepth 100000 in
theorem RR.of_set {w : World} {T n cp er : Nat} {A : Option Addr} {l l0 : List UInt8} {e0 : Nat} (h : RR w T l0 e0) (hz : BytesAt w T A n l) (hc : n ≤ cp) (hb : n ≤ 140737488355328) :
    RR ((w.setCell ⟨T, 0, none⟩ (.slice A n cp)).setCell ⟨T, 1, none⟩ (.int .i64 (er : Nat))) T l er := by
  obtain ⟨A0, n0, cp0, hh, _⟩ := h
  refine ⟨A, n, cp, ?_, (hz.setCell (p := ⟨T, 0, none⟩) (Nat.le_refl _) _).setCell (p := ⟨T, 1, none⟩) (Nat.le_refl _) _, hc, hb⟩
  simp [World.setCell, Array.getElem?_modify, hh]
set_option maxRecDepth 100000 in
theorem RR.of_rest {w : World} {T n cp er : Nat} {A : Option Addr} {l l0 : List UInt8} (h : RR w T l0 er) (hz : BytesAt w T A n l) (hc : n ≤ cp) (hb : n ≤ 140737488355328) :
    RR (w.setCell ⟨T, 0, none⟩ (.slice A n cp)) T l er := by
  obtain ⟨A0, n0, cp0, hh, _⟩ := h
  refine ⟨A, n, cp, ?_, hz.setCell (p := ⟨T, 0, none⟩) (Nat.le_refl _) _, hc, hb⟩
  simp [World.setCell, Array.getElem?_modify, hh]
set_option maxRecDepth 100000 in
theorem RR.of_err {w : World} {T er : Nat} {l : List UInt8} {e0 : Nat} (h : RR w T l e0) : RR (w.setCell ⟨T, 1, none⟩ (.int .i64 (er : Nat))) T l er := by
  obtain ⟨A, n, cp, hh, hz, hc, hn⟩ := h
  refine ⟨A, n, cp, ?_, hz.setCell (p := ⟨T, 1, none⟩) (Nat.le_refl _) _, hc, hn⟩
  simp [World.setCell, Array.getElem?_modify, hh]
set_option maxRecDepth 100000 in
/-- What a walk reads of it. -/
theorem RR.cells {w : World} {T er : Nat} {l : List UInt8} (h : RR w T l er) : ∃ A n cp, l.length = n ∧ (n ≤ cp ∧ n ≤ 140737488355328) ∧ w.cell? ⟨T, 0, none⟩ = some (.slice A n cp) ∧ w.cell? ⟨T, 1, none⟩ = some (.int .i64 (er : Nat)) ∧
    w.frozen? ⟨T, 0, none⟩ = false ∧ w.frozen? ⟨T, 1, none⟩ = false ∧ BytesAt w T A n l := by
  obtain ⟨A, n, cp, hh, hz, hc, hn⟩ := h
  refine ⟨A, n, cp, hz.1, ⟨hc, hn⟩, ?_, ?_, ?_, ?_, hz⟩
  · rw [cell_of_row w T 0 _ 57 _ hh]; rfl
  · rw [cell_of_row w T 1 _ 57 _ hh]; rfl
  · simp [World.frozen?, hh]
  · simp [World.frozen?, hh]


set_option maxHeartbeats 4000000 in
set_option maxRecDepth 100000 in
theorem number_any {w : World} {T er : Nat} {l : List UInt8} (h : RR w T l er) : Calls Tryd.prog 55 #[ptr T] w (PP w (ps l)) := by
  obtain ⟨A, n, cp, hl, ⟨hcp, hnb⟩, h0, h1, f0, f1, hz⟩ := h.cells
  have HL := Lib.hid hl
  have H := Lib.hid hz
  clear h hl hz
  go_enter Tryd.func55, Tryd.ntmps55
  go_wp2_with fail
  go_loop [5, 8] (fun s5 s8 => ∃ (k X : Nat), k ≤ 6 ∧ k ≤ n ∧ s8 = .int .i64 k ∧ s5 = .int .i64 X ∧ Hid (X < 128 ^ k) ∧ Hid (ps l = pz k X (l.drop k))) (fun _ s8 => 6 - (intOf s8).toNat)
  case atStart => exact ⟨0, 0, by omega, by omega, rfl, rfl, (by decide : 0 < 128 ^ 0), rfl⟩
  case round =>
    obtain ⟨k, X, hk, hkn, rfl, rfl, HX, HS⟩ := hrel
    by_cases h6 : k = 6
    · subst h6
      go_wp2_with fail
      go_ret3
      exact pp_of (HS.out.trans (pz_end6 _ _))
    · by_cases hkl : k = n
      · subst hkl
        go_wp2_with fail
        go_ret3
        exact pp_of (HS.out.trans (by rw [List.drop_eq_nil_of_le (by rw [HL.out]; exact Nat.le_refl _)]; exact pz_none h6))
      · obtain ⟨ad, c, rfl, hc, hcell⟩ := H.out.at_ (show k < n by omega)
        have hand := i64_and127 (c.toNat : Int)
        have hlt := c.toNat_lt
        have hor := or_shl (show k < 6 by omega) HX.out c
        have hd : l.drop k = c :: l.drop (k + 1) := by
          obtain ⟨hl, e⟩ := List.getElem?_eq_some_iff.1 hc
          rw [List.drop_eq_getElem_cons hl, e]
        rw [hd] at HS
        obtain ⟨Y, hY⟩ : ∃ Y, Y = X + c.toNat % 128 * 128 ^ k := ⟨_, rfl⟩
        rw [← hY] at hor
        have HY := Lib.hid hY
        have H6 := Lib.hid h6
        have hk6 : (k : Int) < 6 := by omega
        clear hY hc hd
        by_cases h8 : 128 ≤ c.toNat
        · have H8 := Lib.hid h8
          have h8i : (128 : Int) ≤ (c.toNat : Int) := by omega
          go_wp2_with fail
          go_round
          case rel =>
            refine ⟨k + 1, Y, by omega, by omega, by go_num, rfl, ?_, HS.out.trans (by rw [pz_more H6.out H8.out, HY.out])⟩
            have hx := HX.out
            have hm : c.toNat % 128 * 128 ^ k ≤ 127 * 128 ^ k := Nat.mul_le_mul_right _ (by omega)
            show Y < 128 ^ (k + 1)
            rw [HY.out, Nat.pow_succ]
            omega
          case measure => simp [intOf]; omega
        · have H8 := Lib.hid h8
          have h8i : (c.toNat : Int) < 128 := by omega
          have hY2 : Y = X + c.toNat * 128 ^ k := by rw [HY.out, Nat.mod_eq_of_lt (by omega)]
          have HY2 := Lib.hid hY2
          clear hY2 HY HX
          by_cases hz : (0 < k ∧ c.toNat = 0) ∨ 1099511627776 < Y
          · have hp : ps l = (0, 0, 3) := HS.out.trans (pz_bad H6.out H8.out (by rw [← HY2.out]; exact hz))
            have HP := Lib.hid hp
            clear hp
            go_wp2_with fail
            all_goals first
              | (go_ret3; exact pp_of HP.out)
              | (exfalso; simp_all; done)
              | (exfalso; omega)
          · have hp : ps l = (Y, k + 1, 0) := HS.out.trans (by rw [HY2.out]; exact pz_good H6.out H8.out (by rw [← HY2.out]; exact hz))
            have HP := Lib.hid hp
            clear hp
            by_cases hk0 : 0 < k
            · have hce : ((c.toNat : Int) == 0) = false := by rw [beq_eq_false_iff_ne]; omega
              have hcn : ¬ c.toNat = 0 := by omega
              have hy : (Y : Int) ≤ 1099511627776 := by omega
              clear hz
              go_wp2_with fail
              go_ret3
              exact pp_of HP.out
            · have hy : (Y : Int) ≤ 1099511627776 := by omega
              clear hz
              go_wp2_with fail
              all_goals first
                | (go_ret3; exact pp_of HP.out)
                | (exfalso; simp_all; done)
                | (exfalso; omega)

set_option maxRecDepth 100000 in
theorem fail_any {w : World} {T : Nat} {l : List UInt8} (h : RR w T l 0) (er : Nat) : Calls Tryd.prog 35 #[ptr T, .int .i64 (er : Nat)] w fun e w' => e = .returned (.tuple #[]) ∧ RR w' T l er ∧ w.grownBy w' (some T) := by
  obtain ⟨A, n, cp, hl, ⟨hcp, hnb⟩, h0, h1, f0, f1, hz⟩ := h.cells
  rw [show (((0 : Nat) : Int)) = 0 from rfl] at h1
  have H := Lib.hid h
  clear h hz
  go_enter Tryd.func35, Tryd.ntmps35
  go_wp2_with fail
  go_end0
  exact ⟨rfl, H.out.of_err, grown_set _⟩

/-- What a reader's call tells and leaves. -/
def RP (w : World) (T : Nat) (x : Value) (s : St) (e : Ending) (w' : World) : Prop := e = .returned x ∧ RR w' T s.1 s.2.1 ∧ w.grownBy w' (some T)
theorem addk (A : Option Addr) (k : Nat) (hk : k ≠ 0) : A.map (·.add k) = A.map (fun x => { block := x.block, off := x.off + k }) := by
  congr 1
  funext x
  simp [Addr.add, hk]
theorem four_at {w : World} {B n : Nat} {A : Option Addr} {l : List UInt8} (h : BytesAt w B A n l) (h4 : 4 ≤ n) : ∃ ad c0 c1 c2 c3, A = some ad ∧ l.take 4 = [c0, c1, c2, c3] ∧ w.cell? ad = some (.int .u8 (c0.toNat : Int)) ∧ w.cell? { block := ad.block, off := ad.off + 1 } = some (.int .u8 (c1.toNat : Int)) ∧ w.cell? { block := ad.block, off := ad.off + 2 } = some (.int .u8 (c2.toNat : Int)) ∧ w.cell? { block := ad.block, off := ad.off + 3 } = some (.int .u8 (c3.toNat : Int)) := by
  obtain ⟨hl, hc⟩ := h
  obtain ⟨ad, rfl, _, hcell⟩ := hc (by omega)
  match l, hl with
  | c0 :: c1 :: c2 :: c3 :: r, hl =>
    have e : ∀ k, k ≠ 0 → ad.add k = { block := ad.block, off := ad.off + k } := fun k hk => by simp [Addr.add, hk]
    refine ⟨ad, c0, c1, c2, c3, rfl, rfl, ?_, by rw [← e 1 (by decide)]; exact hcell 1 c1 rfl, by rw [← e 2 (by decide)]; exact hcell 2 c2 rfl, by rw [← e 3 (by decide)]; exact hcell 3 c3 rfl⟩
    have := hcell 0 c0 rfl
    rwa [show ad.add 0 = ad by simp [Addr.add]] at this
  | [], hl => simp at hl; omega
  | [_], hl => simp at hl; omega
  | [_, _], hl => simp at hl; omega
  | [_, _, _], hl => simp at hl; omega
theorem be_four (c0 c1 c2 c3 : UInt8) : bits .or .i64 (bits .or .i64 (bits .or .i64 ((c0.toNat : Int) * 16777216) ((c1.toNat : Int) * 65536)) ((c2.toNat : Int) * 256)) (c3.toNat : Int) = (be [c0, c1, c2, c3] : Nat) := by
  have b0 := c0.toNat_lt
  have b1 := c1.toNat_lt
  have b2 := c2.toNat_lt
  have b3 := c3.toNat_lt
  have step : ∀ (X Y k : Nat), k < 32 → Y < 2 ^ k → X * 2 ^ k + Y < 4294967296 → bits .or .i64 ((X * 2 ^ k : Nat) : Int) (Y : Int) = ((X * 2 ^ k + Y : Nat) : Int) := by
    intro X Y k hk hY hlt
    rw [(bits_nat .i64 62 (by decide) i64_small (X * 2 ^ k) Y (by omega) (by omega)).2]
    congr 1
    have := Nat.two_pow_add_eq_or_of_lt (i := k) (b := Y) hY X
    rw [Nat.mul_comm, ← this]
  have s1 := step c0.toNat (c1.toNat * 65536) 24 (by decide) (by omega) (by omega)
  have s2 := step (c0.toNat * 256 + c1.toNat) (c2.toNat * 256) 16 (by decide) (by omega) (by omega)
  have s3 := step ((c0.toNat * 256 + c1.toNat) * 256 + c2.toNat) c3.toNat 8 (by decide) (by omega) (by omega)
  rw [show (c0.toNat : Int) * 16777216 = ((c0.toNat * 2 ^ 24 : Nat) : Int) by omega, show (c1.toNat : Int) * 65536 = ((c1.toNat * 65536 : Nat) : Int) by omega, s1,
    show ((c0.toNat * 2 ^ 24 + c1.toNat * 65536 : Nat) : Int) = (((c0.toNat * 256 + c1.toNat) * 2 ^ 16 : Nat) : Int) by omega, show (c2.toNat : Int) * 256 = ((c2.toNat * 256 : Nat) : Int) by omega, s2,
    show (((c0.toNat * 256 + c1.toNat) * 2 ^ 16 + c2.toNat * 256 : Nat) : Int) = ((((c0.toNat * 256 + c1.toNat) * 256 + c2.toNat) * 2 ^ 8 : Nat) : Int) by omega, s3]
  refine congrArg (fun x : Nat => (x : Int)) ?_
  unfold be
  simp only [List.foldl_cons, List.foldl_nil]
  generalize c0.toNat = a0 at *
  generalize c1.toNat = a1 at *
  generalize c2.toNat = a2 at *
  generalize c3.toNat = a3 at *
  clear s1 s2 s3 step
  omega
set_option maxHeartbeats 1000000 in
set_option maxRecDepth 100000 in
theorem fixed_any {w : World} {T : Nat} {s : St} (h : RR w T s.1 s.2.1) : Calls Tryd.prog 32 #[ptr T] w (RP w T (.int .i64 ((fixS s).1 : Nat)) (fixS s).2) := by
  obtain ⟨l, er, ov⟩ := s
  obtain ⟨A, n, cp, hl, ⟨hcp, hnb⟩, h0, h1, f0, f1, hz⟩ := h.cells
  simp only at hl h0 h1 f0 f1 hz
  have H := Lib.hid h
  clear h
  by_cases he : er = 0
  · subst he
    rw [show (((0 : Nat) : Int)) = 0 from rfl] at h1
    by_cases h4 : n < 4
    · have hs : fixS (l, 0, ov) = (0, (l, 2, ov)) := by unfold fixS; rw [if_neg (by simp), if_pos (by show l.length < 4; omega)]
      rw [hs]
      have HF := Lib.hid (fail_any H.out 2)
      have h4i : (n : Int) < 4 := by omega
      clear hz hs
      go_enter Tryd.func32, Tryd.ntmps32
      go_wp2_with fail
      refine HF.out.mono ?_
      rintro e w1 ⟨rfl, hr, hg⟩
      have R1 := Lib.hid hr
      have G1 := Lib.hid hg
      obtain ⟨A, n, cp, hl, ⟨hcp, hnb⟩, h0, h1, f0, f1, hz⟩ := hr.cells
      clear hz hr hg
      go_wp2_with fail
      go_ret
      exact ⟨rfl, R1.out, G1.out⟩
    · obtain ⟨ad, c0, c1, c2, c3, rfl, ht, q0, q1, q2, q3⟩ := four_at hz (by omega)
      have hs : fixS (l, 0, ov) = (be [c0, c1, c2, c3], (l.drop 4, 0, ov)) := by unfold fixS; rw [if_neg (by simp), if_neg (by show ¬ l.length < 4; omega)]; show (be (l.take 4), _) = _; rw [ht]
      rw [hs]
      have hor := be_four c0 c1 c2 c3
      have b0 := c0.toNat_lt
      have b1 := c1.toNat_lt
      have b2 := c2.toNat_lt
      have b3 := c3.toNat_lt
      have v0 : IntKind.i64.wrap (c0.toNat : Int) = (c0.toNat : Int) := by rw [IntKind.wrap_i64]; omega
      have v1 : IntKind.i64.wrap (c1.toNat : Int) = (c1.toNat : Int) := by rw [IntKind.wrap_i64]; omega
      have v2 : IntKind.i64.wrap (c2.toNat : Int) = (c2.toNat : Int) := by rw [IntKind.wrap_i64]; omega
      have v3 : IntKind.i64.wrap (c3.toNat : Int) = (c3.toNat : Int) := by rw [IntKind.wrap_i64]; omega
      have u0 : IntKind.i64.wrap ((c0.toNat : Int) * 16777216) = (c0.toNat : Int) * 16777216 := by rw [IntKind.wrap_i64]; omega
      have u1 : IntKind.i64.wrap ((c1.toNat : Int) * 65536) = (c1.toNat : Int) * 65536 := by rw [IntKind.wrap_i64]; omega
      have u2 : IntKind.i64.wrap ((c2.toNat : Int) * 256) = (c2.toNat : Int) * 256 := by rw [IntKind.wrap_i64]; omega
      have hcut := hz.cut (k := 4) (cp := cp) (by omega) hcp
      rw [addk _ 4 (by decide)] at hcut
      obtain ⟨l1, hl1⟩ : ∃ l1, l1 = l.drop 4 := ⟨_, rfl⟩
      rw [← hl1] at hcut ⊢
      clear hl1
      have HC := Lib.hid hcut
      have h4i : (4 : Int) ≤ (n : Int) := by omega
      have h4c : (4 : Int) ≤ (cp : Int) := by omega
      clear hz hs hcut
      by_cases hcs : cp = 4
      · rw [if_pos hcs] at HC
        subst hcs
        obtain rfl : n = 4 := by omega
        go_enter Tryd.func32, Tryd.ntmps32
        go_upto_region 5 with fail
        go_quiet (fail)
        have hbd := BxKit.below_drewN (Below.refl w.heap.size w) nq
        have HD := Lib.hid (H.out.below hbd H.out.lt)
        have HCD := Lib.hid (HC.out.below hbd (Nat.le_of_lt H.out.lt))
        have GD := Lib.hid (grown_below hbd (some T))
        clear hbd
        go_wp2_with fail
        go_ret
        exact ⟨rfl, HD.out.of_rest HCD.out (by omega) (by omega), grown_trans GD.out (grown_set _)⟩
      · rw [if_neg hcs] at HC
        go_enter Tryd.func32, Tryd.ntmps32
        go_upto_region 5 with fail
        go_quiet (fail)
        have hbd := BxKit.below_drewN (Below.refl w.heap.size w) nq
        have HD := Lib.hid (H.out.below hbd H.out.lt)
        have HCD := Lib.hid (HC.out.below hbd (Nat.le_of_lt H.out.lt))
        have GD := Lib.hid (grown_below hbd (some T))
        clear hbd
        go_wp2_with fail
        go_ret
        exact ⟨rfl, HD.out.of_rest HCD.out (by omega) (by omega), grown_trans GD.out (grown_set _)⟩
  · have hne := ne_int he
    have hne2 : ((er : Int) == 0) = false := by rw [beq_eq_false_iff_ne]; omega
    rw [show fixS (l, er, ov) = (0, (l, er, ov)) from fix_bad he]
    clear hz
    go_enter Tryd.func32, Tryd.ntmps32
    go_wp2_with fail
    go_ret
    exact ⟨rfl, H.out, World.grownBy.refl _ _⟩

set_option maxHeartbeats 1000000 in
set_option maxRecDepth 100000 in
theorem byte_any {w : World} {T : Nat} {s : St} (h : RR w T s.1 s.2.1) : Calls Tryd.prog 34 #[ptr T] w (RP w T (.int .i64 ((byteS s).1 : Nat)) (byteS s).2) := by
  obtain ⟨l, er, ov⟩ := s
  obtain ⟨A, n, cp, hl, ⟨hcp, hnb⟩, h0, h1, f0, f1, hz⟩ := h.cells
  simp only at hl h0 h1 f0 f1 hz
  have H := Lib.hid h
  clear h
  by_cases he : er = 0
  · subst he
    rw [show (((0 : Nat) : Int)) = 0 from rfl] at h1
    by_cases h4 : n < 1
    · have hs : byteS (l, 0, ov) = (0, (l, 2, ov)) := by unfold byteS; rw [if_neg (by simp), if_pos (by show l.length < 1; omega)]
      rw [hs]
      have HF := Lib.hid (fail_any H.out 2)
      have h4i : (n : Int) < 1 := by omega
      clear hz hs
      go_enter Tryd.func34, Tryd.ntmps34
      go_wp2_with fail
      refine HF.out.mono ?_
      rintro e w1 ⟨rfl, hr, hg⟩
      have R1 := Lib.hid hr
      have G1 := Lib.hid hg
      obtain ⟨A, n, cp, hl, ⟨hcp, hnb⟩, h0, h1, f0, f1, hz⟩ := hr.cells
      clear hz hr hg
      go_wp2_with fail
      go_ret
      exact ⟨rfl, R1.out, G1.out⟩
    · obtain ⟨ad, c0, rfl, hc0, q0⟩ := hz.at_ (j := 0) (by omega)
      rw [show ad.add 0 = ad by simp [Addr.add]] at q0
      have ht : l.take 1 = [c0] := by
        match l, hc0 with
        | x :: r, hc0 => simp at hc0; subst hc0; rfl
      have hs : byteS (l, 0, ov) = (c0.toNat, (l.drop 1, 0, ov)) := by unfold byteS; rw [if_neg (by simp), if_neg (by show ¬ l.length < 1; omega)]; show (be (l.take 1), _) = _; rw [ht]; simp [be]
      rw [hs]
      have b0 := c0.toNat_lt
      have hcut := hz.cut (k := 1) (cp := cp) (by omega) hcp
      rw [addk _ 1 (by decide)] at hcut
      obtain ⟨l1, hl1⟩ : ∃ l1, l1 = l.drop 1 := ⟨_, rfl⟩
      rw [← hl1] at hcut ⊢
      clear hl1
      have HC := Lib.hid hcut
      have h4i : (1 : Int) ≤ (n : Int) := by omega
      have h4c : (1 : Int) ≤ (cp : Int) := by omega
      clear hz hs hcut hc0
      by_cases hcs : cp = 1
      · rw [if_pos hcs] at HC
        subst hcs
        obtain rfl : n = 1 := by omega
        go_enter Tryd.func34, Tryd.ntmps34
        go_wp2_with fail
        go_ret
        exact ⟨rfl, H.out.of_rest HC.out (by omega) (by omega), grown_set _⟩
      · rw [if_neg hcs] at HC
        go_enter Tryd.func34, Tryd.ntmps34
        go_wp2_with fail
        go_ret
        exact ⟨rfl, H.out.of_rest HC.out (by omega) (by omega), grown_set _⟩
  · have hne := ne_int he
    have hne2 : ((er : Int) == 0) = false := by rw [beq_eq_false_iff_ne]; omega
    rw [show byteS (l, er, ov) = (0, (l, er, ov)) from byte_bad he]
    clear hz
    go_enter Tryd.func34, Tryd.ntmps34
    go_wp2_with fail
    go_ret
    exact ⟨rfl, H.out, World.grownBy.refl _ _⟩
set_option maxHeartbeats 4000000 in
set_option maxRecDepth 100000 in
theorem text_any {w : World} {T : Nat} {s : St} (h : RR w T s.1 s.2.1) (m : Int) : Calls Tryd.prog 33 #[ptr T, .int .i64 m] w (RP w T (.string (txtS m s).1) (txtS m s).2) := by
  obtain ⟨l, er0, ov⟩ := s
  obtain ⟨A, n, cp, hl, ⟨hcp, hnb⟩, h0, h1, f0, f1, hz⟩ := h.cells
  simp only at hl h0 h1 f0 f1 hz
  have H := Lib.hid h
  by_cases he : er0 = 0
  · subst he
    rw [show (((0 : Nat) : Int)) = 0 from rfl] at h1
    have HP := Lib.hid (number_any H.out)
    unfold txtS
    rw [if_neg (by simp)]
    simp only
    have hle := ps_le l
    rw [hl] at hle
    have HL := Lib.hid hl
    have HZ := Lib.hid hz
    have hps : ((ps l).2.2 = 0 ∧ (ps l).1 ≤ 1099511627776 ∧ (ps l).2.1 ≤ 6) ∨ (ps l).2.2 ≠ 0 := by
      by_cases h0 : (ps l).2.2 = 0
      · obtain ⟨y, r, _, e2, e3, e4⟩ := ps_ok h0
        exact .inl ⟨h0, by rw [e2]; exact e3, by rw [e2]; exact e4⟩
      · exact .inr h0
    unfold tz
    simp only at HP
    obtain ⟨x, sz, er, ht⟩ : ∃ x sz er, ps l = (x, sz, er) := ⟨_, _, _, rfl⟩
    rw [ht] at hle HP hps ⊢
    simp only at hle hps ⊢
    clear h hz hl ht
    by_cases her : er = 0
    · have hps2 : x ≤ 1099511627776 ∧ sz ≤ 6 := by
        rcases hps with h | h
        · exact h.2
        · exact absurd her h
      subst her
      rw [if_neg (by simp)]
      obtain ⟨hx, hsz⟩ := hps2
      clear hps
      by_cases hm : m < x
      · rw [if_pos hm]
        have HF := Lib.hid (fail_any H.out 3)
        go_enter Tryd.func33, Tryd.ntmps33
        go_wp2_with fail
        refine HP.out.mono ?_
        rintro e w' ⟨rfl, rfl⟩
        go_wp2_with fail
        refine HF.out.mono ?_
        rintro e w' ⟨rfl, hr, hg⟩
        go_wp2_with fail
        go_ret
        exact ⟨rfl, hr, hg⟩
      · rw [if_neg hm]
        by_cases hs : n < sz + x
        · rw [if_pos (by rw [HL.out]; exact hs)]
          have hs2 : (n : Int) - (sz : Int) < (x : Int) := by omega
          have hm2 : (x : Int) ≤ m := by omega
          clear hm hs
          have HF := Lib.hid (fail_any H.out 2)
          go_enter Tryd.func33, Tryd.ntmps33
          go_wp2_with fail
          refine HP.out.mono ?_
          rintro e w' ⟨rfl, rfl⟩
          go_wp2_with fail
          refine HF.out.mono ?_
          rintro e w' ⟨rfl, hr, hg⟩
          go_wp2_with fail
          go_ret
          exact ⟨rfl, hr, hg⟩
        · rw [if_neg (by rw [HL.out]; exact hs)]
          have hs2 : (x : Int) ≤ (n : Int) - (sz : Int) := by omega
          have hm2 : (x : Int) ≤ m := by omega
          have g1 : (sz : Int) + (x : Int) ≤ (n : Int) := by omega
          have g2 : (sz : Int) + (x : Int) ≤ (cp : Int) := by omega
          have g3 : (sz : Int) ≤ (sz : Int) + (x : Int) := by omega
          have g4 : (0 : Int) ≤ (sz : Int) + (x : Int) := by omega
          have gw : IntKind.i64.wrap ((sz : Int) + (x : Int)) = (sz : Int) + (x : Int) := by rw [IntKind.wrap_i64]; omega
          have hmid := (HZ.out.take (k := sz + x) (by omega)).cut (k := sz) (cp := cp) (by omega) (by omega)
          rw [show sz + x - sz = x by omega, List.drop_take, show sz + x - sz = x by omega] at hmid
          have hcut := HZ.out.cut (k := sz + x) (cp := cp) (by omega) hcp
          have HC := Lib.hid hcut
          clear hm hs hcut
          by_cases hcs : cp = sz + x
          · rw [if_pos hcs, show n - (sz + x) = 0 by omega] at HC
            by_cases hcz : cp = sz
            · obtain rfl : x = 0 := by omega
              rw [if_pos hcz] at hmid
              obtain rfl : cp = n := by omega
              subst hcz
              clear hcs
              have hcv := hmid.conv 0
              clear hmid
              go_enter Tryd.func33, Tryd.ntmps33
              go_wp2_with fail
              refine HP.out.mono ?_
              rintro e w' ⟨rfl, rfl⟩
              go_wp2_with fail
              go_ret
              exact ⟨rfl, H.out.of_rest HC.out (by omega) (by omega), grown_set _⟩
            · rw [if_neg hcz] at hmid
              subst hcs
              have hcv := hmid.conv x
              clear hmid
              go_enter Tryd.func33, Tryd.ntmps33
              go_wp2_with fail
              refine HP.out.mono ?_
              rintro e w' ⟨rfl, rfl⟩
              go_wp2_with fail
              go_ret
              exact ⟨rfl, H.out.of_rest HC.out (by omega) (by omega), grown_set _⟩
          · rw [if_neg hcs] at HC
            rw [if_neg (show ¬ cp = sz by omega)] at hmid
            have hcv := hmid.conv (cp - sz)
            have hcn : ¬ cp = sz := by omega
            clear hmid
            go_enter Tryd.func33, Tryd.ntmps33
            go_wp2_with fail
            refine HP.out.mono ?_
            rintro e w' ⟨rfl, rfl⟩
            go_wp2_with fail
            go_ret
            exact ⟨rfl, H.out.of_rest HC.out (by omega) (by omega), grown_set _⟩
    · rw [if_pos her]
      have hne := ne_int her
      have HF := Lib.hid (fail_any H.out er)
      clear hps
      go_enter Tryd.func33, Tryd.ntmps33
      go_wp2_with fail
      refine HP.out.mono ?_
      rintro e w' ⟨rfl, rfl⟩
      go_wp2_with fail
      refine HF.out.mono ?_
      rintro e w' ⟨rfl, hr, hg⟩
      go_wp2_with fail
      go_ret
      exact ⟨rfl, hr, hg⟩
  · have hne := ne_int he
    have hx : txtS m (l, er0, ov) = (⟨#[]⟩, (l, er0, ov)) := by unfold txtS; rw [if_pos he]
    rw [hx]
    clear h hz hx
    go_enter Tryd.func33, Tryd.ntmps33
    go_wp2_with fail
    go_ret
    exact ⟨rfl, H.out, World.grownBy.refl _ _⟩
end Go.Proofs.YtfhdoecackdflaaDoor.RrA
