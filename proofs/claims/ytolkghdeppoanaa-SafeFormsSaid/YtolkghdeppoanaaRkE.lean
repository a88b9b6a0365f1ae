/-
  A change done to files, in a list of its own.
-/
import Derived.Test.YtolkghdeppoanaaRkQ
import Derived.Deep.QuietTactic
import Derived.BigQuiet
import Derived.RegionTactic
set_option linter.unusedVariables false
set_option linter.unusedSimpArgs false
namespace Go.Proofs.Ytolkghdeppoanaa.RkE
open Go.RowKit Go.Proofs.Ytolkghdeppoanaa.BxD Go.Proofs.Ytolkghdeppoanaa.BxKit Go.Proofs.Ytolkghdeppoanaa.RkO Go.Proofs.Ytolkghdeppoanaa.RkC Go.Proofs.Ytolkghdeppoanaa.RkD Go.Proofs.Ytolkghdeppoanaa.RkR Go.Proofs.Ytolkghdeppoanaa.RkK Go.Proofs.Ytolkghdeppoanaa.RkP Go.Proofs.Ytolkghdeppoanaa.RkQ

set_option maxRecDepth 100000 in
theorem lo_map (k : ByteArray) : ∀ rs : List RF, lo cmpS k (rs.map fOf) = lo cmpS k rs
  | [] => rfl
  | r :: rs => by
    simp only [List.map_cons, lo]
    rw [lo_map k rs]; rfl
set_option maxRecDepth 100000 in
theorem hitF_lt {k : ByteArray} {l : List F} (h : hitF k l = true) : lo cmpS k l < l.length := hit_lt h
set_option maxRecDepth 100000 in
theorem lo_len (k : ByteArray) (rs : List RF) : lo cmpS k (rs.map fOf) ≤ rs.length := by rw [lo_map]; exact lo_le cmpS k rs
/-- Files, told again in a list of its own. -/
def DnPost (l : List F) (w : World) (e : Ending) (w' : World) : Prop :=
  ∃ A c, e = .returned (.slice A l.length c) ∧ l.length ≤ c ∧ FilesT w' A l.length l ∧ Below w.heap.size w w'
set_option maxRecDepth 100000 in
theorem cut_raw {rs : List RF} {k : ByteArray} {i : Nat} (hi : lo cmpS k (rs.map fOf) = i) : (if hitF k (rs.map fOf) then rs.take i ++ rs.drop (i + 1) else rs.take i ++ rs.drop i).map fOf = cutF k (rs.map fOf) := by
  unfold cutF cut
  rw [hi]
  split
  · rw [List.map_append, List.map_take, List.map_drop]
  · rw [List.take_append_drop]
set_option maxRecDepth 100000 in
theorem put_raw {rs : List RF} {k : ByteArray} {i : Nat} {d : RD} (hi : lo cmpS k (rs.map fOf) = i) : (if hitF k (rs.map fOf) then rs.take i ++ (k, d) :: rs.drop (i + 1) else rs.take i ++ (k, d) :: rs.drop i).map fOf = putF k d.d (rs.map fOf) := by
  unfold putF put
  split
  · rename_i h
    have hlt := hitF_lt h
    unfold upd
    rw [hi] at hlt ⊢
    rw [List.set_eq_take_append_cons_drop, if_pos hlt, List.map_append, List.map_cons, List.map_take, List.map_drop]; rfl
  · unfold ins
    rw [hi, List.map_append, List.map_cons, List.map_take, List.map_drop]; rfl

set_option maxRecDepth 100000 in
theorem szF : (Try.prog.info? 44).map (·.size) = some 2 := by kernel_rfl
set_option maxRecDepth 100000 in
theorem run_size (w : World) : (sizeOf 44).run Try.prog w = .ok 2 w := by
  obtain ⟨i, hi, hs⟩ := Option.map_eq_some_iff.1 szF
  simp [sizeOf, typeInfo, hi, hs]
set_option maxRecDepth 100000 in
theorem elemF : Try.prog.elem 38 = 44 := by kernel_rfl
set_option maxRecDepth 100000 in
theorem undF : Try.prog.underlying 38 = some (.slice (Try.prog.elem 38)) := by kernel_rfl
set_option maxRecDepth 100000 in
theorem sl_hi (A : Option Addr) (n cp i : Nat) (hi : i ≤ cp) (w : World) : (Instr.slice 38 (.slice A n cp) none (some (.int .i64 (i : Int))) none).run Try.prog w = .ok (.slice A i cp) w := by
  rw [run_slice_h w 38 A n cp undF .i64 (i : Int) (by omega) (by omega), elemF, run_size]
  simp only [Result.andThen, sliced, Int.toNat_natCast, Nat.sub_zero, Nat.zero_mul]
  congr 2
  split
  · rfl
  · cases A with
    | none => rfl
    | some a => simp [Addr.add]
set_option maxRecDepth 100000 in
theorem sl_lo (A : Option Addr) (n cp i : Nat) (hi : i ≤ n) (_hn : n ≤ cp) (z : Int) (hz : z = (i : Int)) (w : World) : (Instr.slice 38 (.slice A n cp) (some (.int .i64 z)) none none).run Try.prog w = .ok (.slice (if cp = i then A else A.map (·.add (i * 2))) (n - i) (cp - i)) w := by
  subst hz
  rw [run_slice_l w 38 A n cp undF .i64 (i : Int) (by omega) (by omega), elemF, run_size]
  simp only [Result.andThen, sliced, Int.toNat_natCast]
set_option maxRecDepth 100000 in
/-- The two ends of files, cut at i. -/
theorem cut_lo {w : World} {A : Option Addr} {n cp i : Nat} {rs : List RF} (h : FilesR w A n rs) (hi : i ≤ n) (hn : n ≤ cp) (z : Int) (hz : z = (i : Int)) :
    ∃ A2 n2 c2, (∀ w, (Instr.slice 38 (.slice A n cp) (some (.int .i64 z)) none none).run Try.prog w = .ok (.slice A2 n2 c2) w) ∧ n2 + i = n ∧ n2 ≤ c2 ∧ FilesR w A2 n2 (rs.drop i) :=
  ⟨_, _, _, sl_lo A n cp i hi hn z hz, by omega, by omega, h.cut hi hn⟩
set_option maxRecDepth 100000 in
/-- Two slices laid in a row of slices. -/
theorem sl_two {w : World} {A1 A2 : Option Addr} {n1 c1 n2 c2 : Nat} {r1 r2 : List RF} (h1 : FilesR w A1 n1 r1) (h2 : FilesR w A2 n2 r2) :
    SlAt (w.alloc (.cells #[.slice A1 n1 c1, .slice A2 n2 c2] 38)) w.heap.size [⟨A1, n1, c1, r1⟩, ⟨A2, n2, c2, r2⟩] := by
  refine ⟨by simp, fun k x hk => ?_⟩
  have hc : ∀ o, (w.alloc (.cells #[.slice A1 n1 c1, .slice A2 n2 c2] 38)).cell? ⟨w.heap.size, o, none⟩ = (#[.slice A1 n1 c1, .slice A2 n2 c2] : Array Value)[o]? := fun o => cell_of_row _ _ o _ _ (0, 0) (heap_alloc_new w _)
  match k, hk with
  | 0, hk =>
    obtain rfl := Option.some.inj hk
    exact ⟨hc 0, h1.kp (Kp.alloc w _)⟩
  | 1, hk =>
    obtain rfl := Option.some.inj hk
    exact ⟨hc 1, h2.kp (Kp.alloc w _)⟩
  | k + 2, hk => simp at hk
set_option maxRecDepth 100000 in
theorem sl_three {w : World} {A1 A2 A3 : Option Addr} {n1 c1 n2 c2 n3 c3 : Nat} {r1 r2 r3 : List RF} (h1 : FilesR w A1 n1 r1) (h2 : FilesR w A2 n2 r2) (h3 : FilesR w A3 n3 r3) :
    SlAt (w.alloc (.cells #[.slice A1 n1 c1, .slice A2 n2 c2, .slice A3 n3 c3] 38)) w.heap.size [⟨A1, n1, c1, r1⟩, ⟨A2, n2, c2, r2⟩, ⟨A3, n3, c3, r3⟩] := by
  refine ⟨by simp, fun k x hk => ?_⟩
  have hc : ∀ o, (w.alloc (.cells #[.slice A1 n1 c1, .slice A2 n2 c2, .slice A3 n3 c3] 38)).cell? ⟨w.heap.size, o, none⟩ = (#[.slice A1 n1 c1, .slice A2 n2 c2, .slice A3 n3 c3] : Array Value)[o]? := fun o => cell_of_row _ _ o _ _ (0, 0) (heap_alloc_new w _)
  match k, hk with
  | 0, hk =>
    obtain rfl := Option.some.inj hk
    exact ⟨hc 0, h1.kp (Kp.alloc w _)⟩
  | 1, hk =>
    obtain rfl := Option.some.inj hk
    exact ⟨hc 1, h2.kp (Kp.alloc w _)⟩
  | 2, hk =>
    obtain rfl := Option.some.inj hk
    exact ⟨hc 2, h3.kp (Kp.alloc w _)⟩
  | k + 3, hk => simp at hk
set_option maxRecDepth 100000 in
theorem OwF.done {rs : List RF} {w0 w w' : World} {e : Ending} {l : List F} (h : OwF rs w e w') (hl : rs.map fOf = l) (hb : Below w0.heap.size w0 w) : DnPost l w0 e w' := by
  obtain ⟨A, c, rfl, h1, h2, h3⟩ := h
  subst hl
  have e : (rs.map fOf).length = rs.length := List.length_map _
  refine ⟨A, c, by rw [e], by rw [e]; exact h1, by rw [e]; exact ⟨rs, rfl, h2⟩, hb.trans (h3.mono hb.size)⟩
/-- The change in its block, as the call lays it. -/
abbrev box (w : World) (k : ByteArray) (b : Bool) (v : Value) : World := w.alloc (.cells #[.string k, .bool b, v] 42)
set_option maxRecDepth 100000 in
theorem one_eq (r : RF) : fc [r] = cell2 r := by simp [fc]

set_option maxRecDepth 100000 in
set_option maxHeartbeats 4000000 in
theorem done_cut {A : Option Addr} {n cp : Nat} {k : ByteArray} {K : Option Addr} {dn kc : Nat} {w : World} {ps : List F} (hr : FilesT w A n ps) (hn : n ≤ 1000) (hnc : n ≤ cp) (hs : SrtF ps) :
    Calls Try.prog 48 #[.slice A n cp, .agg #[.string k, .bool true, .slice K dn kc]] w (DnPost (cutF k ps) w) := by
  have hB0 : Below w.heap.size w (box w k true (.slice K dn kc)) := below_alloc w _
  have hr2 := hr.kp (Kp.below hB0 (Nat.le_refl _))
  have KP := Lib.hid (place_any (cap := cp) k (by omega) hs hr2)
  unfold PlPost at KP
  obtain ⟨rs, rfl, hrs⟩ := hr2
  have hl := hrs.1
  obtain ⟨i, hi⟩ : ∃ i, i = lo cmpS k (rs.map fOf) := ⟨_, rfl⟩
  have hC := cut_raw hi.symm
  have hil : i ≤ n := by rw [hi, ← hl]; exact lo_len k rs
  have hlt : hitF k (rs.map fOf) = true → i < n := fun h => by have := hitF_lt h; rw [List.length_map] at this; omega
  rw [← hi] at KP
  have s1 := sl_hi A n cp i (by omega)
  obtain ⟨A2, n2, c2, s2, e2, le2, f2⟩ := cut_lo hrs hil hnc (i : Int) rfl
  have F1 := Lib.hid (hrs.take hil)
  have F2 := Lib.hid f2
  have E2 := Lib.hid e2
  have HB0 := Lib.hid hB0
  cases hh : hitF k (rs.map fOf) with
  | true =>
    rw [hh] at KP hC
    have hin := hlt hh
    obtain ⟨A3, n3, c3, s3, e3, le3, f3⟩ := cut_lo f2 (i := 1) (by omega) le2 1 rfl
    rw [List.drop_drop] at f3
    have F3 := Lib.hid f3
    have E3 := Lib.hid e3
    clear f3 e3 hin
    rw [if_pos rfl] at hC
    have HC := Lib.hid hC
    clear hi hr hrs hs hh hlt hC f2 e2 hB0 hl
    go_enter Try.func48, Try.ntmps48
    go_upto_region 2 with (go_at_call 61; go_loud (refine KP.out.mono ?_; rintro e w1 ⟨rfl, hb1⟩; have HB1 := Lib.hid hb1; clear hb1))
    have HKp := Lib.hid (Kp.below HB1.out (Nat.le_refl _))
    have hcc : ∀ o, w1.cell? { block := w.heap.size, off := o } = (#[.string k, .bool true, .slice K dn kc] : Array Value)[o]? := fun o => (HB1.out.cell (p := ⟨w.heap.size, o, none⟩) (by simp)).trans (cell_of_row _ _ o _ _ (0, 0) (heap_alloc_new w _))
    have hc0 : w1.cell? { block := w.heap.size, off := 0 } = some (.string k) := hcc 0
    have hc1 : w1.cell? { block := w.heap.size, off := 1 } = some (.bool true) := hcc 1
    have hc2 : w1.cell? { block := w.heap.size, off := 2 } = some (.slice K dn kc) := hcc 2
    clear hcc
    have KC := Lib.hid (concat_any (g := w1.heap.size) (m := 2) (N := i + n3) (ss := [⟨A, i, cp, rs.take i⟩, ⟨A3, n3, c3, rs.drop (i + 1)⟩]) (w := ((w1.alloc (.cells #[.slice A i cp, .slice A3 n3 c3] 38)).drew))
      (sl_two (c1 := cp) (c2 := c3) (F1.out.kp HKp.out) (F3.out.kp HKp.out)) rfl (by simp [tot]) (by have := E2.out; have := E3.out; omega) (by omega))
    have HAll := Lib.hid (show (all [⟨A, i, cp, rs.take i⟩, ⟨A3, n3, c3, rs.drop (i + 1)⟩]).map fOf = cutF k (rs.map fOf) by rw [← HC.out]; simp [all])
    have HB2 := Lib.hid (show Below w.heap.size w ((w1.alloc (.cells #[.slice A i cp, .slice A3 n3 c3] 38)).drew) from (((HB0.out.trans (HB1.out.mono HB0.out.size)).alloc (Nat.le_trans HB0.out.size HB1.out.size) _).drew))
    generalize all [⟨A, i, cp, rs.take i⟩, ⟨A3, n3, c3, rs.drop (i + 1)⟩] = L at KC HAll
    clear HKp
    go_region
    go_wp2_with (go_at_call 70; go_loud (refine KC.out.mono ?_; intro e w2 h2; have HD2 := Lib.hid (OwF.done h2 HAll.out HB2.out); obtain ⟨A4, c4, rfl, _, _, _⟩ := HD2.out))
    go_ret
    exact HD2.out
  | false =>
    rw [hh] at KP hC
    rw [if_neg (by decide)] at hC
    have HC := Lib.hid hC
    clear hi hr hrs hs hh hlt hC f2 e2 hB0 hl
    go_enter Try.func48, Try.ntmps48
    go_upto_region 2 with (go_at_call 61; go_loud (refine KP.out.mono ?_; rintro e w1 ⟨rfl, hb1⟩; have HB1 := Lib.hid hb1; clear hb1))
    have HKp := Lib.hid (Kp.below HB1.out (Nat.le_refl _))
    have hcc : ∀ o, w1.cell? { block := w.heap.size, off := o } = (#[.string k, .bool true, .slice K dn kc] : Array Value)[o]? := fun o => (HB1.out.cell (p := ⟨w.heap.size, o, none⟩) (by simp)).trans (cell_of_row _ _ o _ _ (0, 0) (heap_alloc_new w _))
    have hc0 : w1.cell? { block := w.heap.size, off := 0 } = some (.string k) := hcc 0
    have hc1 : w1.cell? { block := w.heap.size, off := 1 } = some (.bool true) := hcc 1
    have hc2 : w1.cell? { block := w.heap.size, off := 2 } = some (.slice K dn kc) := hcc 2
    clear hcc
    have KC := Lib.hid (concat_any (g := w1.heap.size) (m := 2) (N := i + n2) (ss := [⟨A, i, cp, rs.take i⟩, ⟨A2, n2, c2, rs.drop i⟩]) (w := ((w1.alloc (.cells #[.slice A i cp, .slice A2 n2 c2] 38)).drew))
      (sl_two (c1 := cp) (c2 := c2) (F1.out.kp HKp.out) (F2.out.kp HKp.out)) rfl (by simp [tot]) (by have := E2.out; omega) (by omega))
    have HAll := Lib.hid (show (all [⟨A, i, cp, rs.take i⟩, ⟨A2, n2, c2, rs.drop i⟩]).map fOf = cutF k (rs.map fOf) by rw [← HC.out]; simp [all])
    have HB2 := Lib.hid (show Below w.heap.size w ((w1.alloc (.cells #[.slice A i cp, .slice A2 n2 c2] 38)).drew) from (((HB0.out.trans (HB1.out.mono HB0.out.size)).alloc (Nat.le_trans HB0.out.size HB1.out.size) _).drew))
    generalize all [⟨A, i, cp, rs.take i⟩, ⟨A2, n2, c2, rs.drop i⟩] = L at KC HAll
    clear HKp
    go_region
    go_wp2_with (go_at_call 70; go_loud (refine KC.out.mono ?_; intro e w2 h2; have HD2 := Lib.hid (OwF.done h2 HAll.out HB2.out); obtain ⟨A4, c4, rfl, _, _, _⟩ := HD2.out))
    go_ret
    exact HD2.out
set_option maxRecDepth 100000 in
set_option maxHeartbeats 4000000 in
theorem done_put {A : Option Addr} {n cp : Nat} {k : ByteArray} {K : Option Addr} {kc : Nat} {d : List UInt8} {w : World} {ps : List F} (hr : FilesT w A n ps) (hn : n ≤ 1000) (hnc : n ≤ cp) (hs : SrtF ps) (hd : ByT w K d.length d) (hkc : d.length ≤ kc) :
    Calls Try.prog 48 #[.slice A n cp, .agg #[.string k, .bool false, .slice K d.length kc]] w (DnPost (putF k d ps) w) := by
  have hB0 : Below w.heap.size w (box w k false (.slice K d.length kc)) := below_alloc w _
  have hr2 := hr.kp (Kp.below hB0 (Nat.le_refl _))
  have HD := Lib.hid (hd.kp (Kp.below hB0 (Nat.le_refl _)))
  have HKC := Lib.hid hkc
  clear hd hkc
  have KP := Lib.hid (place_any (cap := cp) k (by omega) hs hr2)
  unfold PlPost at KP
  obtain ⟨rs, rfl, hrs⟩ := hr2
  have hl := hrs.1
  obtain ⟨i, hi⟩ : ∃ i, i = lo cmpS k (rs.map fOf) := ⟨_, rfl⟩
  have hC := put_raw (d := ⟨K, kc, d⟩) hi.symm
  have hil : i ≤ n := by rw [hi, ← hl]; exact lo_len k rs
  have hlt : hitF k (rs.map fOf) = true → i < n := fun h => by have := hitF_lt h; rw [List.length_map] at this; omega
  rw [← hi] at KP
  have s1 := sl_hi A n cp i (by omega)
  obtain ⟨A2, n2, c2, s2, e2, le2, f2⟩ := cut_lo hrs hil hnc (i : Int) rfl
  have F1 := Lib.hid (hrs.take hil)
  have F2 := Lib.hid f2
  have E2 := Lib.hid e2
  have HB0 := Lib.hid hB0
  cases hh : hitF k (rs.map fOf) with
  | true =>
    rw [hh] at KP hC
    have hin := hlt hh
    obtain ⟨A3, n3, c3, s3, e3, le3, f3⟩ := cut_lo f2 (i := 1) (by omega) le2 1 rfl
    rw [List.drop_drop] at f3
    have F3 := Lib.hid f3
    have E3 := Lib.hid e3
    clear f3 e3 hin
    rw [if_pos rfl] at hC
    have HC := Lib.hid hC
    clear hi hr hrs hs hh hlt hC f2 e2 hB0 hl
    go_enter Try.func48, Try.ntmps48
    go_upto_region 2 with (go_at_call 61; go_loud (refine KP.out.mono ?_; rintro e w1 ⟨rfl, hb1⟩; have HB1 := Lib.hid hb1; clear hb1))
    have HKp := Lib.hid (Kp.below HB1.out (Nat.le_refl _))
    have hcc : ∀ o, w1.cell? { block := w.heap.size, off := o } = (#[.string k, .bool false, .slice K d.length kc] : Array Value)[o]? := fun o => (HB1.out.cell (p := ⟨w.heap.size, o, none⟩) (by simp)).trans (cell_of_row _ _ o _ _ (0, 0) (heap_alloc_new w _))
    have hc0 : w1.cell? { block := w.heap.size, off := 0 } = some (.string k) := hcc 0
    have hc1 : w1.cell? { block := w.heap.size, off := 1 } = some (.bool false) := hcc 1
    have hc2 : w1.cell? { block := w.heap.size, off := 2 } = some (.slice K d.length kc) := hcc 2
    clear hcc
    have HD1 := Lib.hid (HD.out.kp HKp.out)
    have HM : Hid (FilesR (w1.alloc (.cells #[.string k, .slice K d.length kc] 44)) (some ⟨w1.heap.size, 0, none⟩) 1 [(k, ⟨K, kc, d⟩)]) := by
      refine filesR_own (base := w1.heap.size) (cp := 1) ?_ ?_
      · rw [one_eq]; exact World.ownsRow_lit w1 #[.string k, .slice K d.length kc] 1 (Nat.le_refl _) (by decide) rfl
      · intro r hr
        obtain rfl := List.mem_singleton.1 hr
        exact ⟨HD1.out.kp (Kp.alloc _ _), HKC.out⟩
    have KC := Lib.hid (concat_any (g := w1.heap.size + 1) (m := 3) (N := i + 1 + n3) (ss := [⟨A, i, cp, rs.take i⟩, ⟨some ⟨w1.heap.size, 0, none⟩, 1, 1, [(k, ⟨K, kc, d⟩)]⟩, ⟨A3, n3, c3, rs.drop (i + 1)⟩]) (w := (((w1.alloc (.cells #[.string k, .slice K d.length kc] 44)).alloc (.cells #[.slice A i cp, .slice (some ⟨w1.heap.size, 0, none⟩) 1 1, .slice A3 n3 c3] 38)).drew))
      (by have h := sl_three (c1 := cp) (c2 := 1) (c3 := c3) ((F1.out.kp HKp.out).kp (Kp.alloc w1 (.cells #[.string k, .slice K d.length kc] 44))) HM.out ((F3.out.kp HKp.out).kp (Kp.alloc w1 (.cells #[.string k, .slice K d.length kc] 44))); rw [show (w1.alloc (.cells #[.string k, .slice K d.length kc] 44)).heap.size = w1.heap.size + 1 by simp] at h; exact h) rfl (by simp [tot]; omega) (by have := E2.out; have := E3.out; omega) (by omega))
    rw [show ((3 : Nat) : Nat) = 3 from rfl] at KC
    have HAll := Lib.hid (show (all [⟨A, i, cp, rs.take i⟩, ⟨some ⟨w1.heap.size, 0, none⟩, 1, 1, [(k, ⟨K, kc, d⟩)]⟩, ⟨A3, n3, c3, rs.drop (i + 1)⟩]).map fOf = putF k d (rs.map fOf) by rw [← HC.out]; simp [all])
    have HB2 := Lib.hid (show Below w.heap.size w (((w1.alloc (.cells #[.string k, .slice K d.length kc] 44)).alloc (.cells #[.slice A i cp, .slice (some ⟨w1.heap.size, 0, none⟩) 1 1, .slice A3 n3 c3] 38)).drew) from ((((HB0.out.trans (HB1.out.mono HB0.out.size)).alloc (Nat.le_trans HB0.out.size HB1.out.size) _).alloc (by have := HB0.out.size; have := HB1.out.size; simp at *; omega) _).drew))
    generalize all [⟨A, i, cp, rs.take i⟩, ⟨some ⟨w1.heap.size, 0, none⟩, 1, 1, [(k, ⟨K, kc, d⟩)]⟩, ⟨A3, n3, c3, rs.drop (i + 1)⟩] = L at KC HAll
    clear HKp
    go_region
    go_wp2_with (go_at_call 70; go_loud (refine KC.out.mono ?_; intro e w2 h2; have HD2 := Lib.hid (OwF.done h2 HAll.out HB2.out); obtain ⟨A4, c4, rfl, _, _, _⟩ := HD2.out))
    go_ret
    exact HD2.out
  | false =>
    rw [hh] at KP hC
    rw [if_neg (by decide)] at hC
    have HC := Lib.hid hC
    clear hi hr hrs hs hh hlt hC f2 e2 hB0 hl
    go_enter Try.func48, Try.ntmps48
    go_upto_region 2 with (go_at_call 61; go_loud (refine KP.out.mono ?_; rintro e w1 ⟨rfl, hb1⟩; have HB1 := Lib.hid hb1; clear hb1))
    have HKp := Lib.hid (Kp.below HB1.out (Nat.le_refl _))
    have hcc : ∀ o, w1.cell? { block := w.heap.size, off := o } = (#[.string k, .bool false, .slice K d.length kc] : Array Value)[o]? := fun o => (HB1.out.cell (p := ⟨w.heap.size, o, none⟩) (by simp)).trans (cell_of_row _ _ o _ _ (0, 0) (heap_alloc_new w _))
    have hc0 : w1.cell? { block := w.heap.size, off := 0 } = some (.string k) := hcc 0
    have hc1 : w1.cell? { block := w.heap.size, off := 1 } = some (.bool false) := hcc 1
    have hc2 : w1.cell? { block := w.heap.size, off := 2 } = some (.slice K d.length kc) := hcc 2
    clear hcc
    have HD1 := Lib.hid (HD.out.kp HKp.out)
    have HM : Hid (FilesR (w1.alloc (.cells #[.string k, .slice K d.length kc] 44)) (some ⟨w1.heap.size, 0, none⟩) 1 [(k, ⟨K, kc, d⟩)]) := by
      refine filesR_own (base := w1.heap.size) (cp := 1) ?_ ?_
      · rw [one_eq]; exact World.ownsRow_lit w1 #[.string k, .slice K d.length kc] 1 (Nat.le_refl _) (by decide) rfl
      · intro r hr
        obtain rfl := List.mem_singleton.1 hr
        exact ⟨HD1.out.kp (Kp.alloc _ _), HKC.out⟩
    have KC := Lib.hid (concat_any (g := w1.heap.size + 1) (m := 3) (N := i + 1 + n2) (ss := [⟨A, i, cp, rs.take i⟩, ⟨some ⟨w1.heap.size, 0, none⟩, 1, 1, [(k, ⟨K, kc, d⟩)]⟩, ⟨A2, n2, c2, rs.drop i⟩]) (w := (((w1.alloc (.cells #[.string k, .slice K d.length kc] 44)).alloc (.cells #[.slice A i cp, .slice (some ⟨w1.heap.size, 0, none⟩) 1 1, .slice A2 n2 c2] 38)).drew))
      (by have h := sl_three (c1 := cp) (c2 := 1) (c3 := c2) ((F1.out.kp HKp.out).kp (Kp.alloc w1 (.cells #[.string k, .slice K d.length kc] 44))) HM.out ((F2.out.kp HKp.out).kp (Kp.alloc w1 (.cells #[.string k, .slice K d.length kc] 44))); rw [show (w1.alloc (.cells #[.string k, .slice K d.length kc] 44)).heap.size = w1.heap.size + 1 by simp] at h; exact h) rfl (by simp [tot]; omega) (by have := E2.out; omega) (by omega))
    rw [show ((3 : Nat) : Nat) = 3 from rfl] at KC
    have HAll := Lib.hid (show (all [⟨A, i, cp, rs.take i⟩, ⟨some ⟨w1.heap.size, 0, none⟩, 1, 1, [(k, ⟨K, kc, d⟩)]⟩, ⟨A2, n2, c2, rs.drop i⟩]).map fOf = putF k d (rs.map fOf) by rw [← HC.out]; simp [all])
    have HB2 := Lib.hid (show Below w.heap.size w (((w1.alloc (.cells #[.string k, .slice K d.length kc] 44)).alloc (.cells #[.slice A i cp, .slice (some ⟨w1.heap.size, 0, none⟩) 1 1, .slice A2 n2 c2] 38)).drew) from ((((HB0.out.trans (HB1.out.mono HB0.out.size)).alloc (Nat.le_trans HB0.out.size HB1.out.size) _).alloc (by have := HB0.out.size; have := HB1.out.size; simp at *; omega) _).drew))
    generalize all [⟨A, i, cp, rs.take i⟩, ⟨some ⟨w1.heap.size, 0, none⟩, 1, 1, [(k, ⟨K, kc, d⟩)]⟩, ⟨A2, n2, c2, rs.drop i⟩] = L at KC HAll
    clear HKp
    go_region
    go_wp2_with (go_at_call 70; go_loud (refine KC.out.mono ?_; intro e w2 h2; have HD2 := Lib.hid (OwF.done h2 HAll.out HB2.out); obtain ⟨A4, c4, rfl, _, _, _⟩ := HD2.out))
    go_ret
    exact HD2.out
end Go.Proofs.Ytolkghdeppoanaa.RkE
