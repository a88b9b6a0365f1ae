/-
  A rack made; what it tells of itself.
-/
import Derived.Test.YtolkghdeppoanaaRkS
import Derived.Deep.RegionHeld3
set_option linter.unusedVariables false
set_option linter.unusedSimpArgs false
namespace Go.Proofs.Ytolkghdeppoanaa.RkM
open Go.RowKit Go.Proofs.Ytolkghdeppoanaa.BxD Go.Proofs.Ytolkghdeppoanaa.BxKit Go.Proofs.Ytolkghdeppoanaa.RkO Go.Proofs.Ytolkghdeppoanaa.RkC Go.Proofs.Ytolkghdeppoanaa.RkD Go.Proofs.Ytolkghdeppoanaa.RkR Go.Proofs.Ytolkghdeppoanaa.RkK Go.Proofs.Ytolkghdeppoanaa.RkP Go.Proofs.Ytolkghdeppoanaa.RkQ Go.Proofs.Ytolkghdeppoanaa.RkE Go.Proofs.Ytolkghdeppoanaa.RkS

abbrev ptr (T : Nat) : Value := .pointer (some ⟨T, 0, none⟩)
def NwPost (room : Int) (base : Nat) (w : World) (e : Ending) (w' : World) : Prop := e = .returned (ptr w.heap.size) ∧ Rk w' base w.heap.size (newS room) none 0 0 none 0 0 none 0 0 ∧ Below w.heap.size w w'
set_option maxRecDepth 100000 in
theorem new_rk (w : World) (base n : Nat) (room : Int) (hb : base ≤ w.heap.size) (hn : (max 0 (min room 1000000)).toNat = n) :
    NwPost room base w (.returned (ptr w.heap.size)) (w.alloc (.cells #[.int .i64 n, .slice none 0 0, .slice none 0 0, .slice none 0 0, .int .i64 0, .bool false, .bool false, .int .i64 0] 74)) := by
  subst hn
  exact ⟨rfl, ⟨heap_alloc_new w _, hb, FilesT.nil _ _, Nat.le_refl _, FilesT.nil _ _, Nat.le_refl _, LooseAt.nil _ _⟩, below_alloc w _⟩
set_option maxRecDepth 100000 in
set_option maxHeartbeats 400000 in
theorem new_any (w : World) (base : Nat) (room : Int) (hb : base ≤ w.heap.size) : Calls Try.prog 16 #[.int .i64 room] w (NwPost room base w) := by
  by_cases h0 : room ≤ 0
  · have HP := Lib.hid (new_rk w base 0 room hb (by omega))
    rcases Int.lt_or_eq_of_le h0 with h0 | rfl
    all_goals
      go_enter Try.func16, Try.ntmps16
      go_wp2
      go_ret
      exact HP.out
  · by_cases h1 : room ≤ 1000000
    · obtain ⟨n, rfl⟩ : ∃ n : Nat, room = n := ⟨room.toNat, by omega⟩
      have HP := Lib.hid (new_rk w base n n hb (by omega))
      go_enter Try.func16, Try.ntmps16
      go_wp2
      all_goals (go_ret; exact HP.out)
    · have HP := Lib.hid (new_rk w base 1000000 room hb (by omega))
      go_enter Try.func16, Try.ntmps16
      go_wp2
      all_goals (go_ret; exact HP.out)
section
variable {w : World} {base T : Nat} {s : St} {SA FA LA : Option Addr} {sn sc fn fcp ln lc : Nat}
set_option maxRecDepth 100000 in
set_option maxHeartbeats 400000 in
theorem size_any (h : Rk w base T s SA sn sc FA fn fcp LA ln lc) {k : Nat} (hk : Ok k s) (h6 : k ≤ 1000) :
    Calls Try.prog 45 #[ptr T] w fun e w' => e = .returned (.int .i64 (costs s.files : Nat)) ∧ Below w.heap.size w w' := by
  have hl := h.files.len
  have KC := Lib.hid (costs_any (cap := fcp) (by have := hk.files.len; omega) hk.files.sz h.files)
  obtain ⟨c0, c1, c2, c3, c4, c5, c6, c7, _⟩ := h.cells rfl
  clear h hl
  unfold ptr
  go_enter Try.func45, Try.ntmps45
  go_wp2_with (go_at_call 65; refine KC.out.mono ?_; rintro e w' ⟨rfl, hb⟩)
  go_ret
  exact ⟨rfl, hb⟩
set_option maxRecDepth 100000 in
set_option maxHeartbeats 400000 in
theorem room_any (h : Rk w base T s SA sn sc FA fn fcp LA ln lc) {k : Nat} (hk : Ok k s) (h6 : k ≤ 1000) :
    Calls Try.prog 46 #[ptr T] w fun e w' => e = .returned (.int .i64 ((s.room : Int) - (costs s.files : Nat))) ∧ Below w.heap.size w w' := by
  have KC := Lib.hid (size_any (h.below (Below.drew (Below.refl _ _))) hk h6)
  have hc := hk.files.cost
  have hr := hk.room
  obtain ⟨C, hC⟩ : ∃ C, C = costs s.files := ⟨_, rfl⟩
  rw [← hC] at KC hc ⊢
  have hs : IntKind.i64.wrap ((s.room : Int) - (C : Int)) = (s.room : Int) - (C : Int) := IntWalk.i64_in _ (by omega)
  obtain ⟨c0, c1, c2, c3, c4, c5, c6, c7, _⟩ := h.cells rfl
  have HT := Lib.hid h.lt
  clear h hC hc hr
  unfold ptr at *
  go_enter Try.func46, Try.ntmps46
  go_upto_region 3 with fail
  go_region_held3 (fun wr => wr.cell? { block := T, off := 0 } = some (.int .i64 s.room)) (with_reducible first | exact c0 | exact d0 | go_keep) (first
    | (go_at_call 45; go_loud (refine KC.out.mono ?_; rintro e w1 ⟨rfl, hb1⟩; have HB1 := Lib.hid (show Below w.heap.size w w1 from (Below.drew (Below.refl w.heap.size w)).trans hb1); have d0 : w1.cell? { block := T, off := 0 } = some (.int .i64 s.room) := (Below.cell HB1.out (p := ⟨T, 0, none⟩) HT.out).trans c0; clear hb1; dsimp only)))
  rename_i hHeld
  clear hHeld
  go_wp2_with fail
  go_ret
  exact ⟨rfl, HB1.out⟩
set_option maxRecDepth 100000 in
set_option maxHeartbeats 400000 in
theorem loose_any (h : Rk w base T s SA sn sc FA fn fcp LA ln lc) : Calls Try.prog 27 #[ptr T] w fun e w' => e = .returned (.int .i64 (ln : Nat)) ∧ w = w' := by
  obtain ⟨c0, c1, c2, c3, c4, c5, c6, c7, _⟩ := h.cells rfl
  clear h
  unfold ptr
  go_enter Try.func27, Try.ntmps27
  go_wp2
  go_ret
  exact ⟨rfl, rfl⟩
set_option maxRecDepth 100000 in
set_option maxHeartbeats 400000 in
theorem writes_any (h : Rk w base T s SA sn sc FA fn fcp LA ln lc) : Calls Try.prog 28 #[ptr T] w fun e w' => e = .returned (.int .i64 (s.writes : Nat)) ∧ w = w' := by
  obtain ⟨c0, c1, c2, c3, c4, c5, c6, c7, _⟩ := h.cells rfl
  clear h
  unfold ptr
  go_enter Try.func28, Try.ntmps28
  go_wp2
  go_ret
  exact ⟨rfl, rfl⟩
set_option maxRecDepth 100000 in
set_option maxHeartbeats 400000 in
theorem down_any (h : Rk w base T s SA sn sc FA fn fcp LA ln lc) : Calls Try.prog 38 #[ptr T] w fun e w' => e = .returned (.bool s.down) ∧ w = w' := by
  obtain ⟨c0, c1, c2, c3, c4, c5, c6, c7, _⟩ := h.cells rfl
  clear h
  unfold ptr
  go_enter Try.func38, Try.ntmps38
  go_wp2
  all_goals (go_ret; exact ⟨rfl, rfl⟩)
/-- Names of the call's own. -/
def NmPost (l : List ByteArray) (w : World) (e : Ending) (w' : World) : Prop :=
  ∃ A c, e = .returned (.slice A l.length c) ∧ w'.ownsRow w.heap.size 9 1 (.slice A l.length c) l.length (l.map Value.string) ∧ Below w.heap.size w w'
set_option maxRecDepth 100000 in
theorem map_take_snoc {l : List F} {k : Nat} {x : ByteArray} {d : List UInt8} (h : l[k]? = some (x, d)) : (l.take (k + 1)).map (fun f => Value.string f.1) = (l.take k).map (fun f => Value.string f.1) ++ [.string x] := by
  obtain ⟨hl, e⟩ := List.getElem?_eq_some_iff.1 h
  rw [List.take_succ_eq_append_getElem hl, List.map_append, e]; rfl
set_option maxRecDepth 100000 in
set_option maxHeartbeats 2000000 in
theorem names_any (h : Rk w base T s SA sn sc FA fn fcp LA ln lc) {k : Nat} (hk : Ok k s) (h6 : k ≤ 1000) :
    Calls Try.prog 51 #[ptr T] w (NmPost (s.files.map (·.1)) w) := by
  have hl := h.files.len
  have hn : fn ≤ 1000 := by have := hk.files.len; omega
  have HF := Lib.hid h.files
  have HL := Lib.hid hl
  have HZ := Lib.hid hk.files.sz
  obtain ⟨c0, c1, c2, c3, c4, c5, c6, c7, _⟩ := h.cells rfl
  clear h hl
  unfold ptr
  go_enter Try.func51, Try.ntmps51
  go_wp2_with fail
  go_loopw [13, 3] (fun s13 s3 wr => ∃ (q : Nat) (v : Value), v = s3 ∧ q ≤ fn ∧ s13 = .int .i64 q ∧ Hid (Below w.heap.size w wr) ∧ Hid (wr.ownsRow w.heap.size 9 1 v q ((s.files.take q).map fun f => Value.string f.1))) (fun s13 _ _ => fn - (intOf s13).toNat)
  case atStart => exact ⟨0, _, rfl, Nat.zero_le _, rfl, Below.refl _ _, World.ownsRow_nil _ _ _ _⟩
  case round =>
    obtain ⟨q, v, rfl, hq, rfl, HB, HO⟩ := hrel
    have hsz := HB.out.size
    by_cases hlt : q < fn
    · obtain ⟨ad, x, K, kd, kc, rfl, hp, d1, d2, hle, _⟩ := HF.out.sp (Kp.below HB.out (Nat.le_refl _)) (j := q) hlt
      have HSN := Lib.hid (map_take_snoc hp)
      obtain ⟨m, hm⟩ : ∃ m, m = kd.length := ⟨_, rfl⟩
      rw [← hm] at d2
      clear hp hm hle
      have HS := Lib.hid (src_new (wr.alloc (.cells #[.string x, .slice K m kc] 44)) #[.string x] 9 (m := 1) (sz := 1) rfl rfl (fun u hu => by simp at hu; subst hu; rfl))
      rw [World.size_alloc] at HS
      have HO5 := Lib.hid ((HO.out.alloc (.cells #[.string x, .slice K m kc] 44)).alloc (.cells #[.string x] 9))
      have HB5 := Lib.hid ((HB.out.alloc hsz (.cells #[.string x, .slice K m kc] 44)).alloc (by simp; omega) (.cells #[.string x] 9))
      have HSZ := Lib.hid (show w.heap.size ≤ ((wr.alloc (.cells #[.string x, .slice K m kc] 44)).alloc (.cells #[.string x] 9)).heap.size by simp; omega)
      go_wp2_with (at_builtin; go_loud (
         refine wpList_rows elS rfl _ _ rfl rfl rfl HO5.out HS.out (by unfold maxLen; omega) (by omega) HSZ.out ?_
         intro v6 w6 hown hg6 _
         have HO6 := Lib.hid (show w6.ownsRow w.heap.size 9 1 v6 (q + 1) ((s.files.take (q + 1)).map fun f => Value.string f.1) by rw [HSN.out]; exact hown)
         have HB6 := Lib.hid (HB5.out.grown hg6 HSZ.out (fun g e => (HO.out.lt g e).1))
         clear hown hg6))
      go_roundw
      case rel => exact ⟨q + 1, _, rfl, by omega, by go_num, HB6, HO6⟩
      case measure => simp [intOf]; omega
    · obtain rfl : fn = q := by omega
      have ho := HO.out
      rw [List.take_of_length_le (by rw [HL.out]; exact Nat.le_refl _)] at ho
      have e1 : (s.files.map fun f => Value.string f.1) = (s.files.map (·.1)).map Value.string := by rw [List.map_map]; rfl
      rw [e1] at ho
      obtain ⟨A6, k6, rfl, hk6⟩ := RkR.own_slice ho
      have HP := Lib.hid (show NmPost (s.files.map (·.1)) w (.returned (.slice A6 fn k6)) wr by
        have hln : (s.files.map (·.1)).length = fn := by rw [List.length_map]; exact HL.out
        unfold NmPost
        rw [hln]
        exact ⟨A6, k6, rfl, ho, HB.out⟩)
      clear ho e1
      go_wp2_with fail
      go_ret
      exact HP.out
end
end Go.Proofs.Ytolkghdeppoanaa.RkM
