/-
  A reader: made, asked, read from.
-/
import Derived.Test.YtdgcihgohkgecaaDoorPkE
import Derived.Test.YtdgcihgohkgecaaDoorPkC
namespace Go.Proofs.YtdgcihgohkgecaaDoor.PkF
open Go.RowKit Go.Proofs.YtdgcihgohkgecaaDoor.PkKit Go.Proofs.YtdgcihgohkgecaaDoor.PkA Go.Proofs.YtdgcihgohkgecaaDoor.PkD Go.Proofs.YtdgcihgohkgecaaDoor.PkE

abbrev ptr (T : Nat) : Value := .pointer (some ⟨T, 0, none⟩)
/-- A reader at block T: the bytes that are left, the error. -/
def RD (w : World) (T : Nat) (l : List UInt8) (er : Nat) : Prop :=
  ∃ A n cp, w.heap[T]? = some (.cells #[.slice A n cp, .int .i64 (er : Nat)] 118 (0, 0)) ∧ BytesAt w T A n l ∧ n ≤ cp ∧ n ≤ 140737488355328
set_option maxRecDepth 100000 in
theorem RD.lt {w : World} {T er : Nat} {l : List UInt8} (h : RD w T l er) : T < w.heap.size := by
  obtain ⟨A, n, cp, hh, _⟩ := h
  exact (Array.getElem?_eq_some_iff.1 hh).1
set_option maxRecDepth 100000 in
theorem RD.below {w w' : World} {T er B : Nat} {l : List UInt8} (h : RD w T l er) (hb : Below B w w') (hB : T < B) : RD w' T l er := by
  obtain ⟨A, n, cp, hh, hz, hc, hn⟩ := h
  exact ⟨A, n, cp, by rw [hb.block T hB]; exact hh, hz.below hb (by omega), hc, hn⟩
set_option maxRecDepth 100000 in
theorem RD.of_set {w : World} {T n cp er : Nat} {A : Option Addr} {l l0 : List UInt8} {e0 : Nat} (h : RD w T l0 e0) (hz : BytesAt w T A n l) (hc : n ≤ cp) (hb : n ≤ 140737488355328) :
    RD ((w.setCell ⟨T, 0, none⟩ (.slice A n cp)).setCell ⟨T, 1, none⟩ (.int .i64 (er : Nat))) T l er := by
  obtain ⟨A0, n0, cp0, hh, _⟩ := h
  refine ⟨A, n, cp, ?_, (hz.setCell (p := ⟨T, 0, none⟩) (Nat.le_refl _) _).setCell (p := ⟨T, 1, none⟩) (Nat.le_refl _) _, hc, hb⟩
  simp [World.setCell, Array.getElem?_modify, hh]
set_option maxRecDepth 100000 in
theorem RD.of_rest {w : World} {T n cp er : Nat} {A : Option Addr} {l l0 : List UInt8} (h : RD w T l0 er) (hz : BytesAt w T A n l) (hc : n ≤ cp) (hb : n ≤ 140737488355328) :
    RD (w.setCell ⟨T, 0, none⟩ (.slice A n cp)) T l er := by
  obtain ⟨A0, n0, cp0, hh, _⟩ := h
  refine ⟨A, n, cp, ?_, hz.setCell (p := ⟨T, 0, none⟩) (Nat.le_refl _) _, hc, hb⟩
  simp [World.setCell, Array.getElem?_modify, hh]
set_option maxRecDepth 100000 in
theorem RD.of_err {w : World} {T er : Nat} {l : List UInt8} {e0 : Nat} (h : RD w T l e0) : RD (w.setCell ⟨T, 1, none⟩ (.int .i64 (er : Nat))) T l er := by
  obtain ⟨A, n, cp, hh, hz, hc, hn⟩ := h
  refine ⟨A, n, cp, ?_, hz.setCell (p := ⟨T, 1, none⟩) (Nat.le_refl _) _, hc, hn⟩
  simp [World.setCell, Array.getElem?_modify, hh]
set_option maxRecDepth 100000 in
theorem grown_set {w : World} {T i : Nat} (v : Value) : w.grownBy (w.setCell ⟨T, i, none⟩ v) (some T) :=
  ⟨rfl, rfl, rfl, by simp [World.setCell], fun k _ hk => Below.heap_setCell w _ v k (fun e => hk (by rw [e]))⟩
set_option maxRecDepth 100000 in
theorem grown_trans {a b c : World} {r : Option Nat} (h : a.grownBy b r) (k : b.grownBy c r) : a.grownBy c r :=
  ⟨k.os.trans h.os, k.tape.trans h.tape, k.output.trans h.output, Nat.le_trans h.size k.size, fun i hi hr => (k.block i (Nat.lt_of_lt_of_le hi h.size) hr).trans (h.block i hi hr)⟩
set_option maxRecDepth 100000 in
/-- What a walk reads of it. -/
theorem RD.cells {w : World} {T er : Nat} {l : List UInt8} (h : RD w T l er) : ∃ A n cp, l.length = n ∧ (n ≤ cp ∧ n ≤ 140737488355328) ∧ w.cell? ⟨T, 0, none⟩ = some (.slice A n cp) ∧ w.cell? ⟨T, 1, none⟩ = some (.int .i64 (er : Nat)) ∧
    w.frozen? ⟨T, 0, none⟩ = false ∧ w.frozen? ⟨T, 1, none⟩ = false ∧ BytesAt w T A n l := by
  obtain ⟨A, n, cp, hh, hz, hc, hn⟩ := h
  refine ⟨A, n, cp, hz.1, ⟨hc, hn⟩, ?_, ?_, ?_, ?_, hz⟩
  · rw [cell_of_row w T 0 _ 118 _ hh]; rfl
  · rw [cell_of_row w T 1 _ 118 _ hh]; rfl
  · simp [World.frozen?, hh]
  · simp [World.frozen?, hh]

def NewP (w : World) (l : List UInt8) (e : Ending) (w' : World) : Prop := ∃ T, e = .returned (ptr T) ∧ w.heap.size ≤ T ∧ RD w' T l 0 ∧ Below w.heap.size w w'
set_option maxRecDepth 100000 in
set_option maxHeartbeats 1000000 in
theorem new_any {w : World} {B n cp : Nat} {A : Option Addr} {l : List UInt8} (h : BytesAt w B A n l) (hB : B ≤ w.heap.size) (hn : n ≤ 140737488355328) :
    Calls Tryd.prog 97 #[.slice A n cp] w (NewP w l) := by
  have C := copied_any (cp := cp) h hB (m := 0) (by omega)
  rw [show (((0 : Nat) : Int)) = 0 from rfl] at C
  have HC := Lib.hid C
  have HL := Lib.hid h.1
  clear C h
  go_enter Tryd.func97, Tryd.ntmps97
  go_wp2_with fail
  refine HC.out.mono ?_
  rintro e w1 ⟨v1, rfl, O1⟩
  obtain ⟨A1, cp1, rfl, hcp1⟩ := own_slice O1.own
  have O1 := Lib.hid O1
  go_wp2_with fail
  go_ret
  refine ⟨w1.heap.size, rfl, O1.out.bel.size, ⟨A1, l.length, cp1, ?_, (O1.out.at_).below ((Below.refl _ _).alloc (Nat.le_refl _) _) (Nat.le_refl _), hcp1, by rw [HL.out]; exact hn⟩, O1.out.bel.alloc O1.out.bel.size _⟩
  exact heap_alloc_new w1 _

set_option maxRecDepth 100000 in
theorem err_any {w : World} {T er : Nat} {l : List UInt8} (h : RD w T l er) : Calls Tryd.prog 103 #[ptr T] w fun e w' => e = .returned (.int .i64 (er : Nat)) ∧ w = w' := by
  obtain ⟨A, n, cp, hl, ⟨hcp, hnb⟩, h0, h1, f0, f1, hz⟩ := h.cells
  clear h hz
  go_enter Tryd.func103, Tryd.ntmps103
  go_wp2_with fail
  go_ret
  exact ⟨rfl, rfl⟩
set_option maxRecDepth 100000 in
theorem left_any {w : World} {T er : Nat} {l : List UInt8} (h : RD w T l er) : Calls Tryd.prog 81 #[ptr T] w fun e w' => e = .returned (.int .i64 (l.length : Nat)) ∧ w = w' := by
  obtain ⟨A, n, cp, hl, ⟨hcp, hnb⟩, h0, h1, f0, f1, hz⟩ := h.cells
  subst hl
  clear h hz
  go_enter Tryd.func81, Tryd.ntmps81
  go_wp2_with fail
  go_ret
  exact ⟨rfl, rfl⟩

/-- What reading a number leaves. -/
def NumP (w : World) (T : Nat) (l : List UInt8) (t : Nat × Nat × Nat) (e : Ending) (w' : World) : Prop := e = .returned (.int .i64 (t.1 : Nat)) ∧ RD w' T (l.drop t.2.1) t.2.2 ∧ w.grownBy w' (some T)
set_option maxRecDepth 100000 in
set_option maxHeartbeats 1000000 in
theorem num_any {w : World} {T : Nat} {l : List UInt8} (h : RD w T l 0) : Calls Tryd.prog 112 #[ptr T] w (NumP w T l (ps l)) := by
  obtain ⟨A, n, cp, hl, ⟨hcp, hnb⟩, h0, h1, f0, f1, hz⟩ := h.cells
  have E := err_any h
  rw [show (((0 : Nat) : Int)) = 0 from rfl] at E
  have P := parse_any (cp := cp) hz
  have hle := ps_le l
  rw [hl] at hle
  have HE := Lib.hid E
  have HP := Lib.hid P
  have H := Lib.hid h
  have HZ := Lib.hid hz
  clear E P h hz hl
  obtain ⟨x, sz, er, ht⟩ : ∃ x sz er, ps l = (x, sz, er) := ⟨_, _, _, rfl⟩
  rw [ht] at hle HP ⊢
  simp only at hle
  clear ht
  by_cases hcs : cp = sz
  · have hcut := HZ.out.cut (cp := cp) hle hcp
    rw [if_pos hcs, show n - sz = 0 by omega] at hcut
    have HC := Lib.hid hcut
    clear hcut
    subst hcs
    go_enter Tryd.func112, Tryd.ntmps112
    go_wp2_with fail
    refine HE.out.mono ?_
    rintro e w' ⟨rfl, rfl⟩
    go_wp2_with fail
    refine HP.out.mono ?_
    rintro e w' ⟨rfl, rfl⟩
    go_wp2_with fail
    go_ret
    exact ⟨rfl, H.out.of_set HC.out (by omega) (by omega), grown_trans (grown_set _) (grown_set _)⟩
  · have hcut := HZ.out.cut (cp := cp) hle hcp
    rw [if_neg hcs] at hcut
    have HC := Lib.hid hcut
    clear hcut
    go_enter Tryd.func112, Tryd.ntmps112
    go_wp2_with fail
    refine HE.out.mono ?_
    rintro e w' ⟨rfl, rfl⟩
    go_wp2_with fail
    refine HP.out.mono ?_
    rintro e w' ⟨rfl, rfl⟩
    go_wp2_with fail
    go_ret
    exact ⟨rfl, H.out.of_set HC.out (by omega) (by omega), grown_trans (grown_set _) (grown_set _)⟩
set_option maxRecDepth 100000 in
theorem ne_int {er : Nat} (h : er ≠ 0) : ((er : Int) != 0) = true := by
  rw [bne_iff_ne]; omega
set_option maxRecDepth 100000 in
set_option maxHeartbeats 1000000 in
/-- Behind an error nothing is read. -/
theorem num_bad {w : World} {T er : Nat} {l : List UInt8} (h : RD w T l er) (he : er ≠ 0) : Calls Tryd.prog 112 #[ptr T] w fun e w' => e = .returned (.int .i64 0) ∧ w = w' := by
  have HE := Lib.hid (err_any h)
  have hne := ne_int he
  clear h
  go_enter Tryd.func112, Tryd.ntmps112
  go_wp2_with fail
  refine HE.out.mono ?_
  rintro e w' ⟨rfl, rfl⟩
  go_wp2_with fail
  go_ret
  exact ⟨rfl, rfl⟩
set_option maxRecDepth 100000 in
set_option maxHeartbeats 1000000 in
theorem text_bad {w : World} {T er : Nat} {l : List UInt8} (h : RD w T l er) (he : er ≠ 0) (x : Int) : Calls Tryd.prog 101 #[ptr T, .int .i64 x] w fun e w' => e = .returned (.string ⟨#[]⟩) ∧ w = w' := by
  have HE := Lib.hid (err_any h)
  have hne := ne_int he
  clear h
  go_enter Tryd.func101, Tryd.ntmps101
  go_wp2_with fail
  refine HE.out.mono ?_
  rintro e w' ⟨rfl, rfl⟩
  go_wp2_with fail
  go_ret
  exact ⟨rfl, rfl⟩

def TakeP (w : World) (T : Nat) (l : List UInt8) (k : Nat) (e : Ending) (w' : World) : Prop :=
  ∃ A cp, e = .returned (.slice A k cp) ∧ k ≤ cp ∧ BytesAt w' T A k (l.take k) ∧ RD w' T (l.drop k) 0 ∧ w.grownBy w' (some T)
set_option maxRecDepth 100000 in
set_option maxHeartbeats 2000000 in
theorem take_any {w : World} {T k : Nat} {l : List UInt8} (h : RD w T l 0) (hk : k ≤ l.length) : Calls Tryd.prog 114 #[ptr T, .int .i64 (k : Nat)] w (TakeP w T l k) := by
  obtain ⟨A, n, cp, hl, ⟨hcp, hnb⟩, h0, h1, f0, f1, hz⟩ := h.cells
  have E := err_any h
  rw [show (((0 : Nat) : Int)) = 0 from rfl] at E
  have HE := Lib.hid E
  have H := Lib.hid h
  have HZ := Lib.hid hz
  have HL := Lib.hid hl
  rw [hl] at hk
  clear E h hz hl
  by_cases hcs : cp = k
  · have hcut := HZ.out.cut (cp := cp) hk hcp
    rw [if_pos hcs, show n - k = 0 by omega] at hcut
    have HC := Lib.hid hcut
    clear hcut
    subst hcs
    go_enter Tryd.func114, Tryd.ntmps114
    go_wp2_with fail
    refine HE.out.mono ?_
    rintro e w' ⟨rfl, rfl⟩
    go_wp2_with fail
    go_ret
    exact ⟨A, cp, rfl, by omega, (HZ.out.take (by omega)).setCell (p := ⟨T, 0, none⟩) (Nat.le_refl _) _, H.out.of_rest HC.out (by omega) (by omega), grown_set _⟩
  · have hcut := HZ.out.cut (cp := cp) hk hcp
    rw [if_neg hcs] at hcut
    have HC := Lib.hid hcut
    clear hcut
    go_enter Tryd.func114, Tryd.ntmps114
    go_wp2_with fail
    refine HE.out.mono ?_
    rintro e w' ⟨rfl, rfl⟩
    go_wp2_with fail
    go_ret
    exact ⟨A, cp, rfl, by omega, (HZ.out.take (by omega)).setCell (p := ⟨T, 0, none⟩) (Nat.le_refl _) _, H.out.of_rest HC.out (by omega) (by omega), grown_set _⟩
set_option maxRecDepth 100000 in
set_option maxHeartbeats 2000000 in
theorem take_short {w : World} {T k : Nat} {l : List UInt8} (h : RD w T l 0) (hk : l.length < k) : Calls Tryd.prog 114 #[ptr T, .int .i64 (k : Nat)] w fun e w' => e = .returned (.slice none 0 0) ∧ RD w' T l 2 ∧ w.grownBy w' (some T) := by
  obtain ⟨A, n, cp, hl, ⟨hcp, hnb⟩, h0, h1, f0, f1, hz⟩ := h.cells
  have E := err_any h
  rw [show (((0 : Nat) : Int)) = 0 from rfl] at E
  have HE := Lib.hid E
  have H := Lib.hid h
  rw [hl] at hk
  clear E h hz hl
  go_enter Tryd.func114, Tryd.ntmps114
  go_wp2_with fail
  refine HE.out.mono ?_
  rintro e w' ⟨rfl, rfl⟩
  go_wp2_with fail
  go_ret
  exact ⟨rfl, H.out.of_err, grown_set _⟩
set_option maxRecDepth 100000 in
theorem take_bad {w : World} {T er : Nat} {l : List UInt8} (h : RD w T l er) (he : er ≠ 0) (x : Int) : Calls Tryd.prog 114 #[ptr T, .int .i64 x] w fun e w' => e = .returned (.slice none 0 0) ∧ w = w' := by
  have HE := Lib.hid (err_any h)
  have hne := ne_int he
  clear h
  go_enter Tryd.func114, Tryd.ntmps114
  go_wp2_with fail
  refine HE.out.mono ?_
  rintro e w' ⟨rfl, rfl⟩
  go_wp2_with fail
  go_ret
  exact ⟨rfl, rfl⟩

/-- What reading a text of at most m bytes tells, and leaves. -/
def tz (l : List UInt8) (m : Int) : List UInt8 × List UInt8 × Nat :=
  if (ps l).2.2 ≠ 0 then ([], l, (ps l).2.2)
  else if m < (ps l).1 then ([], l, 3)
  else if l.length < (ps l).2.1 + (ps l).1 then ([], l, 2)
  else ((l.drop (ps l).2.1).take (ps l).1, l.drop ((ps l).2.1 + (ps l).1), 0)
def TextP (w : World) (T : Nat) (t : List UInt8 × List UInt8 × Nat) (e : Ending) (w' : World) : Prop := e = .returned (.string ⟨t.1.toArray⟩) ∧ RD w' T t.2.1 t.2.2 ∧ w.grownBy w' (some T)
set_option maxRecDepth 100000 in
set_option maxHeartbeats 4000000 in
theorem text_any {w : World} {T : Nat} {l : List UInt8} (h : RD w T l 0) (m : Int) : Calls Tryd.prog 101 #[ptr T, .int .i64 m] w (TextP w T (tz l m)) := by
  obtain ⟨A, n, cp, hl, ⟨hcp, hnb⟩, h0, h1, f0, f1, hz⟩ := h.cells
  have E := err_any h
  rw [show (((0 : Nat) : Int)) = 0 from rfl] at E
  have P := parse_any (cp := cp) hz
  have hle := ps_le l
  rw [hl] at hle
  have HE := Lib.hid E
  have HP := Lib.hid P
  have H := Lib.hid h
  have HL := Lib.hid hl
  have hps : ((ps l).2.2 = 0 ∧ (ps l).1 ≤ 1099511627776 ∧ (ps l).2.1 ≤ 6) ∨ (ps l).2.2 ≠ 0 := by
    by_cases h0 : (ps l).2.2 = 0
    · obtain ⟨y, r, _, e2, e3, e4⟩ := ps_ok h0
      exact .inl ⟨h0, by rw [e2]; exact e3, by rw [e2]; exact e4⟩
    · exact .inr h0
  unfold tz
  obtain ⟨x, sz, er, ht⟩ : ∃ x sz er, ps l = (x, sz, er) := ⟨_, _, _, rfl⟩
  rw [ht] at hle HP hps ⊢
  simp only at hle hps ⊢
  clear E P h hz hl ht
  by_cases her : er = 0
  · have hps2 : x ≤ 1099511627776 ∧ sz ≤ 6 := by
      rcases hps with h | h
      · exact h.2
      · exact absurd her h
    subst her
    rw [if_neg (by simp)]
    obtain ⟨hx, hsz⟩ := hps2
    clear hps
    by_cases hm : m < x
    · rw [if_pos hm]
      go_enter Tryd.func101, Tryd.ntmps101
      go_wp2_with fail
      refine HE.out.mono ?_
      rintro e w' ⟨rfl, rfl⟩
      go_wp2_with fail
      refine HP.out.mono ?_
      rintro e w' ⟨rfl, rfl⟩
      go_wp2_with fail
      go_ret
      exact ⟨rfl, H.out.of_err, grown_set _⟩
    · rw [if_neg hm]
      by_cases hs : n < sz + x
      · rw [if_pos (by rw [HL.out]; exact hs)]
        have hs2 : (n : Int) - (sz : Int) < (x : Int) := by omega
        have hm2 : (x : Int) ≤ m := by omega
        clear hm hs
        go_enter Tryd.func101, Tryd.ntmps101
        go_wp2_with fail
        refine HE.out.mono ?_
        rintro e w' ⟨rfl, rfl⟩
        go_wp2_with fail
        refine HP.out.mono ?_
        rintro e w' ⟨rfl, rfl⟩
        go_wp2_with fail
        go_ret
        exact ⟨rfl, H.out.of_err, grown_set _⟩
      · rw [if_neg (by rw [HL.out]; exact hs)]
        have TK := take_any (k := sz + x) H.out (by rw [HL.out]; omega)
        rw [show ((sz + x : Nat) : Int) = (sz : Int) + (x : Int) by omega] at TK
        have HT := Lib.hid TK
        clear TK
        have hs2 : (x : Int) ≤ (n : Int) - (sz : Int) := by omega
        have hm2 : (x : Int) ≤ m := by omega
        clear hm hs
        go_enter Tryd.func101, Tryd.ntmps101
        go_wp2_with fail
        refine HE.out.mono ?_
        rintro e w' ⟨rfl, rfl⟩
        go_wp2_with fail
        refine HP.out.mono ?_
        rintro e w' ⟨rfl, rfl⟩
        go_wp2_with fail
        refine HT.out.mono ?_
        rintro e w1 ⟨A1, cp1, rfl, hc1, hb1, hr1, hg1⟩
        have R1 := Lib.hid hr1
        have G1 := Lib.hid hg1
        by_cases hcs : cp1 = sz
        · have hcut := hb1.cut (k := sz) (cp := cp1) (by omega) hc1
          rw [if_pos hcs, show sz + x - sz = x by omega, List.drop_take, show sz + x - sz = x by omega] at hcut
          have hcv := hcut.conv 0
          clear hcut hb1 hr1 hg1
          go_wp2_with fail
          go_ret
          exact ⟨rfl, R1.out, G1.out⟩
        · have hcut := hb1.cut (k := sz) (cp := cp1) (by omega) hc1
          rw [if_neg hcs, show sz + x - sz = x by omega, List.drop_take, show sz + x - sz = x by omega] at hcut
          have hcv := hcut.conv (cp1 - sz)
          clear hcut hb1 hr1 hg1
          go_wp2_with fail
          go_ret
          exact ⟨rfl, R1.out, G1.out⟩
  · rw [if_pos her]
    have hne := ne_int her
    clear hps
    go_enter Tryd.func101, Tryd.ntmps101
    go_wp2_with fail
    refine HE.out.mono ?_
    rintro e w' ⟨rfl, rfl⟩
    go_wp2_with fail
    refine HP.out.mono ?_
    rintro e w' ⟨rfl, rfl⟩
    go_wp2_with fail
    go_ret
    exact ⟨rfl, H.out.of_err, grown_set _⟩
end Go.Proofs.YtdgcihgohkgecaaDoor.PkF
