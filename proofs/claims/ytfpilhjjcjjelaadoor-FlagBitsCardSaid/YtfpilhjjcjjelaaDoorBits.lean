/-
  FlagBits: the walk.
-/
import Derived.Test.YtfpilhjjcjjelaaDoorG
import Derived.Deep.CutBlock
import Derived.Deep.DeepCutAuto
import Derived.Laws.IdiomStrings
import Derived.Lib.ConvBytes
namespace Go.Proofs.YtfpilhjjcjjelaaDoor.flagBits
open Go.RowKit Go.Proofs.YtfpilhjjcjjelaaDoor.Kit Go.Proofs.YtfpilhjjcjjelaaDoor.A Go.Proofs.YtfpilhjjcjjelaaDoor.B Go.Proofs.YtfpilhjjcjjelaaDoor.C Go.Proofs.YtfpilhjjcjjelaaDoor.M

def Yes (w : World) (e : Ending) (w' : World) : Prop := e = .returned (.bool true) ∧ Below w.heap.size w w'

/-- A new row of bytes: its first L cells are the bytes l. -/
def UP (w : World) (g L : Nat) (l : List UInt8) : Prop :=
  l.length = L ∧ ∃ C : Array Value, w.heap[g]? = some (.cells C 5 (C.size, C.size + 1)) ∧ L ≤ C.size ∧ ∀ (j : Nat) (c : UInt8), l[j]? = some c → C[j]? = some (.int .u8 (c.toNat : Int))
theorem UP.new (w : World) (x : ByteArray) : UP (Lib.bytesWorld w 5 x) w.heap.size x.size x.data.toList := by
  refine ⟨by simp, _, Lib.bytesWorld_at_new w 5 x, by simp [Lib.bytesCells], fun j c hc => ?_⟩
  have hj : j < x.data.size := by simpa using (List.getElem?_eq_some_iff.1 hc).1
  have hc' : x.data[j]? = some c := by simpa using hc
  unfold Lib.bytesCells
  rw [Array.getElem?_append_left (by simpa using hj), Array.getElem?_map, hc']; rfl
theorem UP.below {w w' : World} {g L : Nat} {l : List UInt8} (h : UP w g L l) (hb : Below w.heap.size w w') : UP w' g L l := by
  obtain ⟨hl, C, hC, r⟩ := h
  exact ⟨hl, C, by rw [hb.block g (Array.getElem?_eq_some_iff.1 hC).1]; exact hC, r⟩
theorem UP.cell {w : World} {g L : Nat} {l : List UInt8} (h : UP w g L l) {i : Nat} {c : UInt8} (hc : l[i]? = some c) : w.cell? ⟨g, i, none⟩ = some (.int .u8 (c.toNat : Int)) := by
  obtain ⟨hl, C, hC, _, r⟩ := h
  rw [cell_of_row w g i C 5 _ hC]; exact r i c hc
theorem UP.frozen {w : World} {g L : Nat} {l : List UInt8} (h : UP w g L l) {i : Nat} (hi : i < L) : w.frozen? ⟨g, i, none⟩ = false := by
  obtain ⟨hl, C, hC, hL, r⟩ := h
  simp [World.frozen?, hC]; omega
theorem UP.lt {w : World} {g L : Nat} {l : List UInt8} (h : UP w g L l) : g < w.heap.size := by
  obtain ⟨hl, C, hC, _⟩ := h
  exact (Array.getElem?_eq_some_iff.1 hC).1
theorem UP.set {w : World} {g L : Nat} {l : List UInt8} (h : UP w g L l) {i : Nat} (hi : i < L) (c : UInt8) : UP (w.setCell ⟨g, i, none⟩ (.int .u8 (c.toNat : Int))) g L (l.set i c) := by
  have hlt := h.lt
  obtain ⟨hl, C, hC, hL, r⟩ := h
  refine ⟨by simpa using hl, C.setIfInBounds i (.int .u8 (c.toNat : Int)), ?_, by simpa using hL, fun j d hd => ?_⟩
  · simp [World.setCell, Array.getElem?_modify, hC]
  · rw [List.getElem?_set] at hd
    rw [Array.getElem?_setIfInBounds]
    by_cases e : i = j
    · subst e
      rw [if_pos rfl, if_pos (by omega)] at hd
      rw [if_pos rfl, if_pos (by omega)]
      injection hd with hd
      rw [hd]
    · rw [if_neg e] at hd
      rw [if_neg e]
      exact r j d hd
theorem UP.conv {w : World} {g L cap : Nat} {l : List UInt8} (h : UP w g L l) : (convert 32 9 (.slice (some ⟨g, 0, none⟩) L cap)).run Tryd.prog w = .ok (.string ⟨l.toArray⟩) w := by
  have hl := h.1
  subst hl
  refine run_convert_bytes_back (P := Tryd.prog) w 32 9 5 ⟨g, 0, none⟩ cap l Tryd.underlying32 Tryd.underlying5 Tryd.underlying9 (fun j hj => ?_)
  have := h.cell (i := j) (c := l[j]) (List.getElem?_eq_getElem hj)
  rw [← this]
  congr 1
  unfold Addr.add
  split <;> simp_all

theorem sm_up {c : UInt8} (h1 : 97 ≤ (c.toNat : Int)) (h2 : (c.toNat : Int) ≤ 122) : sm (c - 32) = sm c ∧ ((c - 32).toNat : Int) = (c.toNat : Int) - 32 := by
  have h3 : (32 : UInt8) ≤ c := by rw [UInt8.le_iff_toNat_le]; show 32 ≤ c.toNat; omega
  have e : (c - 32).toNat = c.toNat - 32 := by rw [UInt8.toNat_sub_of_le _ _ h3]; rfl
  refine ⟨?_, by omega⟩
  unfold sm
  rw [e, if_pos (by omega), if_neg (by omega)]
  omega
theorem alB_same {a x y : ByteArray} (h : x.data.toList.map sm = y.data.toList.map sm) : alB a x = alB a y := by unfold alB; rw [h]
theorem bitOf_same {x y : ByteArray} (h : x.data.toList.map sm = y.data.toList.map sm) : bitOf x = bitOf y := by
  unfold bitOf
  rw [alB_same h, alB_same h, alB_same h, alB_same h, alB_same h]
theorem bit_name : ∀ k, k < 5 → bitOf (nameAt k) = bitAt k := five (by decide +kernel) (by decide +kernel) (by decide +kernel) (by decide +kernel) (by decide +kernel)
theorem atB_name : ∀ k, k < 5 → atB (nameAt k) = false := five (by decide +kernel) (by decide +kernel) (by decide +kernel) (by decide +kernel) (by decide +kernel)
theorem bit_x : ∀ k, k < 5 → bitOf (nameAt k ++ ⟨#[120]⟩) = 0 := five (by decide +kernel) (by decide +kernel) (by decide +kernel) (by decide +kernel) (by decide +kernel)
theorem size_name : ∀ k, k < 5 → 5 ≤ (nameAt k).size ∧ (nameAt k).size ≤ 9 := five (by decide +kernel) (by decide +kernel) (by decide +kernel) (by decide +kernel) (by decide +kernel)
theorem size_of_alB {x y : ByteArray} (h : alB x y = true) : x.size = y.size := by
  by_cases e : x.size = y.size
  · exact e
  · rw [alB_len e] at h; cases h
theorem size_bit {s : ByteArray} (h : bitOf s ≠ 0) : (nameOf (bitOf s)).size = s.size := by
  unfold bitOf at h ⊢
  split
  · rename_i h0; exact size_of_alB h0
  split
  · rename_i h0; exact size_of_alB h0
  split
  · rename_i h0; exact size_of_alB h0
  split
  · rename_i h0; exact size_of_alB h0
  split
  · rename_i h0; exact size_of_alB h0
  · rename_i h0 h1 h2 h3 h4
    simp [h0, h1, h2, h3, h4] at h
theorem shl_at : ∀ k, k < 5 → ∀ w : World, (Op.shift .shl .i64 1 .u64 (k : Nat)).run Tryd.prog w = .ok (.int .i64 (bitAt k)) w :=
  five (fun _ => by kernel_rfl) (fun _ => by kernel_rfl) (fun _ => by kernel_rfl) (fun _ => by kernel_rfl) (fun _ => by kernel_rfl)

theorem map_set_same {f : UInt8 → Int} {l : List UInt8} {i : Nat} {c d : UInt8} (h : l[i]? = some c) (e : f d = f c) : (l.set i d).map f = l.map f := by
  apply List.ext_getElem?
  intro j
  rw [List.getElem?_map, List.getElem?_map, List.getElem?_set]
  by_cases hij : i = j
  · subst hij
    rw [if_pos rfl, if_pos (List.getElem?_eq_some_iff.1 h).1, h]
    simp [e]
  · rw [if_neg hij]
set_option maxHeartbeats 4000000 in
set_option maxRecDepth 100000 in
theorem walk (n : Int) (s : ByteArray) (w : World) (hn : Names w) (hs : s.size ≤ maxLen) :
    Calls Tryd.prog 4 #[.int .i64 n, .string s] w (Yes w) := by
  obtain ⟨k, hk, hkm⟩ : ∃ k : Nat, k < 5 ∧ (IntKind.u64.wrap n).tmod 5 = k := by
    have h0 : 0 ≤ IntKind.u64.wrap n := by rw [IntKind.wrap_u64]; omega
    have h1 : (IntKind.u64.wrap n).tmod 5 = IntKind.u64.wrap n % 5 := Int.tmod_eq_emod_of_nonneg h0
    exact ⟨(IntKind.u64.wrap n % 5).toNat, by omega, by rw [h1]; omega⟩
  have hsh := shl_at k hk
  rw [← hkm] at hsh
  obtain ⟨x, hx⟩ : ∃ x, x = nameAt k := ⟨_, rfl⟩
  obtain ⟨hx1, hx2⟩ := size_name k hk
  have hbn := bit_name k hk
  have han := atB_name k hk
  have hbx := bit_x k hk
  have KN := name_any (bitAt k) w hn
  rw [nameOf_at k hk] at KN
  rw [← hx] at hx1 hx2 hbn han hbx KN
  have h2x : 2 ≤ (x.size : Int) := by omega
  have hx100 : (x.size : Int) ≤ 100 := by omega
  unfold maxLen at hs
  obtain ⟨b, hb⟩ : ∃ b, b = bitAt k := ⟨_, rfl⟩
  rw [← hb] at hsh hbn KN
  have HN := Lib.hid hn
  have HK := Lib.hid KN
  have HBN := Lib.hid hbn
  have HBX := Lib.hid hbx
  have HAN := Lib.hid han
  clear hn hkm hx KN hbn hbx han hb
  by_cases h200 : 200 < s.size
  · have h200' : 200 < (s.size : Int) := by omega
    clear h200
    go_enter Tryd.func4, Tryd.ntmps4
    go_wp2_with fail
    refine HK.out.mono ?_
    rintro e w1 ⟨rfl, hb1⟩
    have HAW := Lib.hid (G.awake w1 (HN.out.below hb1 HN.out.size))
    have HB1 := Lib.hid hb1
    clear hb1
    go_wp2_with (go_at_call 8; refine HAW.out.mono ?_; rintro e w' ⟨rfl, hb9⟩)
    go_ret
    exact ⟨rfl, HB1.out.trans (hb9.mono HB1.out.size)⟩
  · have h200' : (s.size : Int) ≤ 200 := by omega
    clear h200
    go_enter Tryd.func4, Tryd.ntmps4
    go_wp2_with fail
    refine HK.out.mono ?_
    rintro e w1 ⟨rfl, hb1⟩
    have hcv := Lib.run_convert_string_bytes (P := Tryd.prog) w1 9 32 5 x Tryd.underlying9 Tryd.underlying32 Tryd.underlying5
    have hup := UP.new w1 x
    have hb2 : Below w1.heap.size w1 (Lib.bytesWorld w1 5 x) := ⟨rfl, rfl, rfl, by rw [Lib.bytesWorld_size]; omega, fun j hj => Lib.bytesWorld_at_old w1 5 x j hj⟩
    obtain ⟨w2, hw2⟩ : ∃ w2, w2 = Lib.bytesWorld w1 5 x := ⟨_, rfl⟩
    obtain ⟨g, hg⟩ : ∃ g, g = w1.heap.size := ⟨_, rfl⟩
    obtain ⟨cp, hcp⟩ : ∃ cp, cp = grownCap w1 x.size 0 5 := ⟨_, rfl⟩
    rw [← hw2] at hcv hup hb2
    rw [← hcp] at hcv
    have hgw : w.heap.size ≤ g := by rw [hg]; exact hb1.size
    rw [← hg] at hcv hup
    have HU := Lib.hid hup
    have HB2 := Lib.hid (hb1.trans (hb2.mono hb1.size))
    clear hup hb2 hb1 hw2 hg hcp HK
    go_wp2_with fail
    clear hsh hcv
    go_loopw [35] (fun s35 wr => ∃ (i : Nat) (l : List UInt8), i ≤ x.size ∧ s35 = .int .i64 i ∧ Hid (UP wr g x.size l) ∧ Hid (l.map sm = x.data.toList.map sm) ∧ Hid (Below w.heap.size w wr)) (fun s35 _ => x.size - (intOf s35).toNat)
    case atStart => exact ⟨0, _, Nat.zero_le _, rfl, HU, rfl, HB2⟩
    case round =>
      clear HU HB2
      obtain ⟨i, l, hi, rfl, HU, HM, HB⟩ := hrel
      by_cases hlt : i < x.size
      · have hll := HU.out.1
        obtain ⟨c, hc⟩ : ∃ c, l[i]? = some c := ⟨_, List.getElem?_eq_getElem (by omega)⟩
        have hcell := HU.out.cell hc
        have hfr := HU.out.frozen hlt
        have hi9 : (i : Int) ≤ 9 := by omega
        have hc0 : (0 : Int) ≤ c.toNat := by omega
        have hc1 : (c.toNat : Int) < 256 := by have := c.toNat_lt; omega
        have HC := Lib.hid hc
        have HLL := Lib.hid hll
        clear hc hll
        by_cases g1 : 97 ≤ (c.toNat : Int)
        · by_cases g2 : (c.toNat : Int) ≤ 122
          · obtain ⟨e1, e2⟩ := sm_up g1 g2
            have E1 := Lib.hid e1
            have E2 := Lib.hid e2
            clear e1 e2
            go_wp2_with fail
            · go_roundw
              case rel => exact ⟨i + 1, l.set i (c - 32), by omega, by go_num, by rw [← E2.out]; exact HU.out.set hlt (c - 32), (map_set_same HC.out E1.out).trans HM.out, HB.out.setCell hgw _⟩
              case measure => simp [intOf]; omega
            · go_roundw
              case rel => exact ⟨i + 1, l, by omega, by go_num, HU, HM, HB⟩
              case measure => simp [intOf]; omega
          · go_wp2_with fail
            go_roundw
            case rel => exact ⟨i + 1, l, by omega, by go_num, HU, HM, HB⟩
            case measure => simp [intOf]; omega
        · go_wp2_with fail
          go_roundw
          case rel => exact ⟨i + 1, l, by omega, by go_num, HU, HM, HB⟩
          case measure => simp [intOf]; omega
      · obtain rfl : i = x.size := by omega
        obtain ⟨y, hy⟩ : ∃ y : ByteArray, y = ⟨l.toArray⟩ := ⟨_, rfl⟩
        have hby : bitOf y = b := by rw [← HBN.out]; exact bitOf_same (by rw [hy]; exact HM.out)
        have hys : (y.size : Int) ≤ 100 := by
          have h1 := HU.out.1
          have h2 : y.size = l.length := by rw [hy]; simp [ByteArray.size]
          omega
        have n2 := HN.out.below HB.out HN.out.size
        have S := bit_any s wr n2 (by unfold maxLen; omega)
        have HS := Lib.hid S
        have HY := Lib.hid hy
        have HBY := Lib.hid hby
        have N2 := Lib.hid n2
        clear hlt hy hby n2 S
        obtain ⟨bs, hbs⟩ : ∃ bs, bs = bitOf s := ⟨_, rfl⟩
        have HBS := Lib.hid hbs
        rw [← hbs] at HS
        clear hbs
        go_wp2_with fail
        refine HS.out.mono ?_
        rintro e w3 ⟨rfl, hb3⟩
        have n3 := N2.out.below hb3 N2.out.size
        have B3 := Lib.hid (HB.out.trans (hb3.mono HB.out.size))
        have U3 := Lib.hid (HU.out.below hb3)
        have S := bit_any x w3 n3 (by unfold maxLen; omega)
        rw [HBN.out] at S
        have HS3 := Lib.hid S
        have N3 := Lib.hid n3
        clear hb3 n3 S HS N2 HU HB
        go_wp2_with fail
        refine HS3.out.mono ?_
        rintro e w4 ⟨rfl, hb4⟩
        have n4 := N3.out.below hb4 N3.out.size
        have B4 := Lib.hid (B3.out.trans (hb4.mono B3.out.size))
        have hc4 := (U3.out.below hb4).conv (cap := cp)
        rw [← HY.out] at hc4
        have S := bit_any y w4 n4 (by unfold maxLen; omega)
        rw [HBY.out] at S
        have HS4 := Lib.hid S
        have N4 := Lib.hid n4
        clear hb4 n4 S HS3 N3 U3 B3
        go_wp2_with fail
        refine HS4.out.mono ?_
        rintro e w5 ⟨rfl, hb5⟩
        have n5 := N4.out.below hb5 N4.out.size
        have B5 := Lib.hid (B4.out.trans (hb5.mono B4.out.size))
        have N5 := Lib.hid n5
        have M := may_any x w5
        rw [HAN.out] at M
        have HM5 := Lib.hid M
        clear hb5 n5 HS4 N4 B4 hc4 M
        by_cases h0 : bs = 0
        · subst h0
          go_wp2_with (go_at_call 10; refine HM5.out.mono ?_; rintro e w' ⟨rfl, rfl⟩)
          have S := bit_any (x ++ ⟨#[120]⟩) w5 N5.out (by unfold maxLen; rw [ByteArray.size_append]; show x.size + 1 ≤ _; omega)
          rw [HBX.out] at S
          have HSX := Lib.hid S
          clear S
          go_wp2_with fail
          refine HSX.out.mono ?_
          rintro e w8 ⟨rfl, hb8⟩
          have B8 := Lib.hid (B5.out.trans (hb8.mono B5.out.size))
          have HAW := Lib.hid (G.awake w8 (HN.out.below B8.out HN.out.size))
          clear hb8
          go_wp2_with (go_at_call 8; refine HAW.out.mono ?_; rintro e w' ⟨rfl, hb9⟩)
          go_ret
          exact ⟨rfl, B8.out.trans (hb9.mono B8.out.size)⟩
        · have h0b : (bs == 0) = false := by simpa using h0
          have hsz : (((nameOf bs).size : Int) == (s.size : Int)) = true := by
            have := size_bit (s := s) (by rw [← HBS.out]; exact h0)
            rw [← HBS.out] at this
            rw [this]; simp
          obtain ⟨z, hz⟩ : ∃ z, z = nameOf bs := ⟨_, rfl⟩
          have S := name_any bs w5 N5.out
          rw [← hz] at hsz S
          have HS5 := Lib.hid S
          clear S hz h0
          go_wp2_with (go_at_call 10; refine HM5.out.mono ?_; rintro e w' ⟨rfl, rfl⟩)
          refine HS5.out.mono ?_
          rintro e w6 ⟨rfl, hb6⟩
          have N6 := Lib.hid (N5.out.below hb6 N5.out.size)
          have B6 := Lib.hid (B5.out.trans (hb6.mono B5.out.size))
          clear hb6
          have S := bit_any (x ++ ⟨#[120]⟩) w6 N6.out (by unfold maxLen; rw [ByteArray.size_append]; show x.size + 1 ≤ _; omega)
          rw [HBX.out] at S
          have HSX := Lib.hid S
          clear S
          go_wp2_with fail
          refine HSX.out.mono ?_
          rintro e w8 ⟨rfl, hb8⟩
          have B8 := Lib.hid (B6.out.trans (hb8.mono B6.out.size))
          have HAW := Lib.hid (G.awake w8 (HN.out.below B8.out HN.out.size))
          clear hb8
          go_wp2_with (go_at_call 8; refine HAW.out.mono ?_; rintro e w' ⟨rfl, hb9⟩)
          go_ret
          exact ⟨rfl, B8.out.trans (hb9.mono B8.out.size)⟩
end Go.Proofs.YtfpilhjjcjjelaaDoor.flagBits
