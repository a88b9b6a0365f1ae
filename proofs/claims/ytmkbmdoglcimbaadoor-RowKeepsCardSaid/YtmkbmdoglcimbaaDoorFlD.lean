/-
  Split: of a row of names, each a flag or an atom, the bits together and the words in order, each once.
-/
import Derived.Test.YtmkbmdoglcimbaaDoorFlM
import Derived.Below
import Derived.Lib.Hide
import Derived.Maps.AppendAt
import Derived.Maps.OwnSet
namespace Go.Proofs.YtmkbmdoglcimbaaDoor.FlArg
open Go.RowKit

theorem add_block (a : Addr) (j : Nat) : (a.add j).block = a.block := by unfold Addr.add; split <;> rfl

/-- A slice of ints that came in. -/
def IntsAt (w : World) (A : Option Addr) (n : Nat) (zs : List Int) : Prop :=
  zs.length = n ∧ (0 < n → ∃ ad, A = some ad ∧ ad.block < w.heap.size ∧ ∀ j z, zs[j]? = some z → w.cell? (ad.add j) = some (.int .i64 z))
/-- A slice of texts that came in. -/
def StrsAt (w : World) (A : Option Addr) (n : Nat) (zs : List ByteArray) : Prop :=
  zs.length = n ∧ (0 < n → ∃ ad, A = some ad ∧ ad.block < w.heap.size ∧ ∀ j z, zs[j]? = some z → w.cell? (ad.add j) = some (.string z))

theorem IntsAt.at_ {w wr : World} {A : Option Addr} {n B : Nat} {zs : List Int} (h : IntsAt w A n zs) (hb : Below B w wr) (hB : w.heap.size ≤ B) {j : Nat} (hj : j < n) :
    ∃ ad x, A = some ad ∧ zs[j]? = some x ∧ wr.cell? (ad.add j) = some (.int .i64 x) := by
  obtain ⟨hl, hc⟩ := h
  obtain ⟨ad, rfl, hlt, hcell⟩ := hc (by omega)
  refine ⟨ad, zs[j]'(by omega), rfl, List.getElem?_eq_getElem (by omega), ?_⟩
  rw [hb.cell (p := ad.add j) (by rw [add_block]; omega)]
  exact hcell j _ (List.getElem?_eq_getElem (by omega))
theorem StrsAt.at_ {w wr : World} {A : Option Addr} {n B : Nat} {zs : List ByteArray} (h : StrsAt w A n zs) (hb : Below B w wr) (hB : w.heap.size ≤ B) {j : Nat} (hj : j < n) :
    ∃ ad x, A = some ad ∧ zs[j]? = some x ∧ wr.cell? (ad.add j) = some (.string x) := by
  obtain ⟨hl, hc⟩ := h
  obtain ⟨ad, rfl, hlt, hcell⟩ := hc (by omega)
  refine ⟨ad, zs[j]'(by omega), rfl, List.getElem?_eq_getElem (by omega), ?_⟩
  rw [hb.cell (p := ad.add j) (by rw [add_block]; omega)]
  exact hcell j _ (List.getElem?_eq_getElem (by omega))
end Go.Proofs.YtmkbmdoglcimbaaDoor.FlArg
namespace Go.Proofs.YtmkbmdoglcimbaaDoor.FlD
open Go.RowKit Go.Maps Go.ChangeShapes Go.WideShapes Go.WideMaps Go.Proofs.YtmkbmdoglcimbaaDoor.FlK Go.Proofs.YtmkbmdoglcimbaaDoor.FlArg Go.Proofs.YtmkbmdoglcimbaaDoor.FlA Go.Proofs.YtmkbmdoglcimbaaDoor.FlB Go.Proofs.YtmkbmdoglcimbaaDoor.FlC Go.Proofs.YtmkbmdoglcimbaaDoor.FlM

set_option maxRecDepth 100000 in
theorem law9 : Keyed Tryd.prog 9 := string_keyed Tryd.underlying9
set_option maxRecDepth 100000 in
theorem zero42 (w : World) : (zeroValue 105).run Tryd.prog w = .ok (.agg #[]) w := by kernel_rfl
set_option maxRecDepth 100000 in
theorem info9 : (Tryd.prog.info? 9).map (fun i => (i.zero, i.size, i.bytes)) = some (some (.string ⟨#[]⟩), 1, 16) := by kernel_rfl
set_option maxRecDepth 100000 in
theorem row_ne {w : World} {base : Nat} {e : TypeId} {size : Nat} {v : Value} {n : Nat} {xs : List Value} (h : w.ownsRow base e size v n xs) {b : Nat} (hb : b < base) : some b ≠ v.ownBlock := fun e1 => by
  have := (h.lt b e1.symm).1
  omega
set_option maxRecDepth 100000 in
theorem strs_oneCell (zs : List ByteArray) : ∀ u ∈ zs.map Value.string, u.oneCell' = true := by
  intro u hu
  obtain ⟨z, _, rfl⟩ := List.mem_map.1 hu
  rfl
set_option maxRecDepth 100000 in
theorem grown_below {a b : World} (h : Below a.heap.size a b) (row : Option Nat) : a.grownBy b row := ⟨h.os, h.tape, h.output, h.size, fun i hi _ => h.block i hi⟩

def ST (w : World) (B k : Nat) (zs : List ByteArray) (v : Value) (wr : World) : Prop :=
  wr.ownsMap Tryd.prog 9 unitElem B k (st zs k) ∧ wr.ownsRow (B + 1) 9 1 v (wd zs k).length ((wd zs k).map Value.string) ∧ Below B w wr ∧ B + 1 ≤ wr.heap.size
set_option maxRecDepth 100000 in
theorem ST.below {w wr w2 : World} {B k : Nat} {zs : List ByteArray} {v : Value} (h : ST w B k zs v wr) (hb : Below wr.heap.size wr w2) : ST w B k zs v w2 := by
  obtain ⟨h1, h2, h3, h4⟩ := h
  refine ⟨h1.kept (grown_below hb none) (by simp), h2.kept (grown_below hb none) ?_, h3.trans (hb.mono (by omega)), Nat.le_trans h4 hb.size⟩
  cases hv : v.ownBlock <;> simp
set_option maxRecDepth 100000 in
theorem ST.same {w wr : World} {B k : Nat} {zs : List ByteArray} {v : Value} (h : ST w B k zs v wr) (hw : wd zs (k + 1) = wd zs k) : ST w B (k + 1) zs v wr := by
  obtain ⟨h1, h2, h3, h4⟩ := h
  exact ⟨by rw [st_same hw]; exact h1.mono (Nat.le_succ _), by rw [hw]; exact h2, h3, h4⟩
set_option maxRecDepth 100000 in
theorem fl_flag {zs : List ByteArray} {k f b : Nat} {x : ByteArray} (hf : f = fl zs k) (hx : zs[k]? = some x) (hb : b = bitN x) : f ||| b = fl zs (k + 1) := by rw [fl_succ hx, hf, hb]
def SpPost (zs : List ByteArray) (w : World) (e : Ending) (w' : World) : Prop :=
  ∃ v, e = .returned (.tuple #[.int .i64 (fl zs zs.length : Nat), v, .bool true]) ∧ w'.ownsRow (w.heap.size + 1) 9 1 v (wd zs zs.length).length ((wd zs zs.length).map Value.string) ∧ Below w.heap.size w w'

def good (z : ByteArray) : Prop := bitOf z ≠ 0 ∨ atB z = true
def SqPost (zs : List ByteArray) (w : World) (e : Ending) (w' : World) : Prop :=
  ((∀ z ∈ zs, good z) ∧ SpPost zs w e w') ∨ ((∃ z ∈ zs, ¬ good z) ∧ e = .returned (.tuple #[.int .i64 0, .slice none 0 0, .bool false]) ∧ Below w.heap.size w w')
set_option maxRecDepth 100000 in
theorem good_snoc {zs : List ByteArray} {k : Nat} {x : ByteArray} (h : ∀ z ∈ zs.take k, good z) (hx : zs[k]? = some x) (hg : good x) : ∀ z ∈ zs.take (k + 1), good z := by
  obtain ⟨hl, rfl⟩ := List.getElem?_eq_some_iff.1 hx
  intro z hz
  rw [List.take_succ_eq_append_getElem hl] at hz
  rcases List.mem_append.1 hz with hz | hz
  · exact h z hz
  · obtain rfl := List.mem_singleton.1 hz
    exact hg

set_option maxHeartbeats 2000000 in
set_option maxRecDepth 100000 in
theorem split_any (A : Option Addr) (n cp : Nat) (zs : List ByteArray) (w : World) (hn : Names w) (hz : StrsAt w A n zs) (hsz : ∀ z ∈ zs, z.size ≤ maxLen) (hl : n ≤ 8796093022208)
     : Calls Tryd.prog 62 #[.slice A n cp] w (SqPost zs w) := by
  have hzl := hz.1
  have HZL := Lib.hid hzl
  have HZ := Lib.hid hz
  have HSZ := Lib.hid hsz
  have HN := Lib.hid hn
  clear hz hsz hn hzl
  have hmm := @run_makeMap Tryd.prog
  obtain ⟨i0, hi, hz0, hz1, hz2⟩ := info_parts info9
  have HI := Lib.hid hi
  have HZ0 := Lib.hid hz0
  have HZ1 := Lib.hid hz1
  have HZ2 := Lib.hid hz2
  clear hi hz0 hz1 hz2
  obtain ⟨B, hB⟩ : ∃ B, B = w.heap.size := ⟨_, rfl⟩
  have HB := Lib.hid hB
  go_enter Tryd.func62, Tryd.ntmps62
  go_wp2_with fail
  rw [← hB]
  clear hB hmm
  go_loopw [5, 6, 16] (fun s5 s6 s16 wr => ∃ (k f : Nat) (v : Value), v = s6 ∧ k ≤ n ∧ s16 = .int .i64 k ∧ s5 = .int .i64 f ∧ f < 32 ∧ Hid (f = fl zs k) ∧ Hid (ST w B k zs v wr) ∧ Hid (∀ z ∈ zs.take k, good z)) (fun _ _ s16 _ => n - (intOf s16).toNat)
  case atStart => exact ⟨0, 0, _, rfl, Nat.zero_le _, rfl, rfl, by decide, rfl, by rw [HB.out]; exact ⟨by rw [st_zero]; exact World.ownsMap_made _ _ _ _, World.ownsRow_nil _ _ _ _, (Below.refl _ _).alloc (Nat.le_refl _) _, by simp⟩, by intro z hz; simp at hz⟩
  case round =>
    obtain ⟨k, f, v, rfl, hk, rfl, rfl, hf, HF, HS, HGD⟩ := hrel
    by_cases hlt : k < n
    · obtain ⟨ad, x, rfl, hx, hc1⟩ := HZ.out.at_ HS.out.2.2.1 (Nat.le_of_eq HB.out.symm) hlt
      have hxm := List.mem_of_getElem? hx
      have hxs := HSZ.out x hxm
      have hkey : keyOf Tryd.prog 9 (.string x) = some (.string x.data.toList) := keyOf_string_mk Tryd.underlying9 hxs
      have HX := Lib.hid hx
      obtain ⟨b, hb⟩ : ∃ b, b = bitN x := ⟨_, rfl⟩
      have hb32 : b < 32 := by rw [hb]; exact bitN_lt x
      have hbx : bitOf x = (b : Int) := by rw [hb]; exact bitN_cast x
      have C12 := bit_any x wr (HN.out.below HS.out.2.2.1 (by have := HN.out.size; rw [HB.out]; exact this)) hxs
      rw [hbx] at C12
      have K12 := Lib.hid C12
      have HKEY := Lib.hid hkey
      have HBX := Lib.hid hbx
      have HBN := Lib.hid hb
      clear hx hxm hb hbx C12 hkey
      by_cases h0 : b = 0
      · subst h0
        have C10 := fun w => may_any x w
        cases ha : atB x with
        | false =>
          rw [ha] at C10
          have K10 := Lib.hid C10
          have HBAD := Lib.hid (show ∃ z ∈ zs, ¬ good z from ⟨x, List.mem_of_getElem? HX.out, fun hg => by
            rcases hg with hg | hg
            · exact hg (by rw [HBX.out]; rfl)
            · rw [ha] at hg; cases hg⟩)
          clear ha C10
          go_wp2_with fail
          refine K12.out.mono ?_
          rintro e w2 ⟨rfl, hb2⟩
          have HS2 := Lib.hid (HS.out.below hb2)
          clear hb2 K12
          go_wp2_with (go_at_call 84; refine (K10.out _).mono ?_; rintro e w' ⟨rfl, rfl⟩)
          go_ret3
          exact .inr ⟨HBAD.out, rfl, by have := HS2.out.2.2.1; rw [HB.out] at this; exact this⟩
        | true =>
        rw [ha] at C10
        have K10 := Lib.hid C10
        have HGN := Lib.hid (show ∀ z ∈ zs.take (k + 1), good z from good_snoc HGD.out HX.out (.inr ha))
        clear ha C10
        by_cases hc : x ∈ wd zs k
        · have hhas : Maps.has (st zs k) (.string x.data.toList) = true := by rw [has_st]; exact decide_eq_true hc
          have HC := Lib.hid hc
          clear hc
          go_wp2_with fail
          refine K12.out.mono ?_
          rintro e w2 ⟨rfl, hb2⟩
          have HB2 := Lib.hid hb2
          have HS2 := Lib.hid (HS.out.below hb2)
          clear hb2 K12
          go_wp2_with (first
            | (go_at_call 84; refine (K10.out _).mono ?_; rintro e w' ⟨rfl, rfl⟩)
            | (at_lookup; refine wpList_lookup_own_unit _ rfl _ _ 103 rfl 9 105 law9 Tryd.underlying103 (zero42 _) B k _ rfl HS2.out.1 _ _ rfl HKEY.out ?_))
          go_roundw
          case rel => exact ⟨k + 1, f, v, rfl, by omega, by go_num, rfl, hf, by have := fl_flag HF.out HX.out HBN.out; rw [Nat.or_zero] at this; exact this, (HS2.out.same (wd_old HX.out HC.out)).below ((Below.refl _ _).alloc (Nat.le_refl _) _), HGN⟩
          case measure => simp [intOf]; omega
        · have hhas : Maps.has (st zs k) (.string x.data.toList) = false := by rw [has_st]; exact decide_eq_false hc
          have hnew := wd_new HX.out HBX.out hc
          have HNEW := Lib.hid hnew
          clear hc hnew
          go_wp2_with fail
          refine K12.out.mono ?_
          rintro e w2 ⟨rfl, hb2⟩
          have HB2 := Lib.hid hb2
          have HS2 := Lib.hid (HS.out.below hb2)
          clear hb2 K12
          have hwl := wd_le zs k
          go_wp2_with (first
            | (go_at_call 84; refine (K10.out _).mono ?_; rintro e w' ⟨rfl, rfl⟩)
            | (at_lookup; refine wpList_lookup_own_unit _ rfl _ _ 103 rfl 9 105 law9 Tryd.underlying103 (zero42 _) B k _ rfl HS2.out.1 _ _ rfl HKEY.out ?_)
            | (at_mapUpdate; refine wpList_mapUpdate_own _ rfl _ _ _ 103 rfl 9 105 law9 Tryd.underlying103 (unitElem (H := Unit)) B k _ rfl (HS2.out.1.alloc _) (by unfold maxLen; omega) _ _ _ rfl rfl HKEY.out _ [] unitElem_mk ?_; intro w3 hown3 hgrow3)
            | (at_builtin; refine wpList_append_own _ rfl _ _ 22 rfl (B + 1) 9 i0 (.string ⟨#[]⟩) 1 16 Tryd.underlying22 HI.out HZ0.out HZ1.out HZ2.out rfl (by decide) _ _ _ rfl (((HS2.out.2.1.alloc _).kept hgrow3 (Or.inr (row_ne HS2.out.2.1 (Nat.lt_succ_self _)).symm)).alloc _) ⟨w3.heap.size, 0, none⟩ 1 1 [.string x] rfl rfl (cell_one_new _ _ _) (strs_oneCell [x]) (by unfold maxLen; omega) (by omega) (by have := hgrow3.size; have := HS2.out.2.2.2; simp at *; omega) ?_; intro v' w4 hown4 hgrow4 hnil4))
          have hr1 := (HS2.out.2.1.alloc (.cells #[] 105)).kept hgrow3 (Or.inr (row_ne HS2.out.2.1 (Nat.lt_succ_self _)).symm)
          have s1 := hgrow3.size
          have s2 := hgrow4.size
          have s0 := HS2.out.2.2.2
          simp at s1 s2
          go_roundw
          case rel =>
            refine ⟨k + 1, f, v', rfl, by omega, by go_num, rfl, hf, by have := fl_flag HF.out HX.out HBN.out; rw [Nat.or_zero] at this; exact this, ⟨?_, ?_, ?_, ?_⟩, HGN⟩
            · rw [st_new HNEW.out]
              exact (hown3.alloc _).kept hgrow4 (row_ne hr1 (Nat.lt_succ_self _))
            · rw [HNEW.out]
              simpa using hown4
            · exact ((((HS2.out.2.2.1.alloc (by omega) _).grown hgrow3 (by simp; omega) (fun j hj => by cases hj; exact Nat.le_refl _)).alloc (by omega) _).grown hgrow4 (by simp; omega) (fun j hj => Nat.le_trans (Nat.le_succ _) (hr1.lt j hj).1))
            · omega
          case measure => simp [intOf]; omega
      · have hb0 : ((b : Int) != 0) = true := by simpa using h0
        have hor := bits_or f hf b hb32
        obtain ⟨g, hg⟩ : ∃ g, g = f ||| b := ⟨_, rfl⟩
        have hg32 : g < 32 := by rw [hg]; exact or_lt hf hb32
        rw [← hg] at hor
        have HG := Lib.hid hg
        clear hg
        go_wp2_with fail
        refine K12.out.mono ?_
        rintro e w2 ⟨rfl, hb2⟩
        have HS2 := Lib.hid (HS.out.below hb2)
        clear hb2 K12
        go_wp2_with fail
        go_roundw
        case rel => exact ⟨k + 1, g, v, rfl, by omega, by go_num, rfl, hg32, by have := fl_flag HF.out HX.out HBN.out; rw [← HG.out] at this; exact this, HS2.out.same (wd_flag HX.out (by rw [HBX.out]; omega)), good_snoc HGD.out HX.out (.inl (by rw [HBX.out]; omega))⟩
        case measure => simp [intOf]; omega
    · obtain rfl : k = n := by omega
      go_wp2_with fail
      go_ret3
      have h1 := HS.out
      rw [HB.out] at h1
      have hk1 : k = zs.length := HZL.out.symm
      subst hk1
      exact .inl ⟨by have := HGD.out; rwa [List.take_length] at this, v, by rw [HF.out]; rfl, h1.2.1, h1.2.2.1⟩
end Go.Proofs.YtmkbmdoglcimbaaDoor.FlD
