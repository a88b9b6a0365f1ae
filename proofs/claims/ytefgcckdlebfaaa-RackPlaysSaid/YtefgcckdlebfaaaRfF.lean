/-
  The document's NewRack, Flush, Fuse, Read.
-/
import Derived.Test.YtefgcckdlebfaaaRfW
namespace Go.Proofs.Ytefgcckdlebfaaa.RfF
open Go.RowKit Go.Proofs.Ytefgcckdlebfaaa.BxD Go.Proofs.Ytefgcckdlebfaaa.BxKit Go.Proofs.Ytefgcckdlebfaaa.RkO Go.Proofs.Ytefgcckdlebfaaa.RkC Go.Proofs.Ytefgcckdlebfaaa.RkD Go.Proofs.Ytefgcckdlebfaaa.RkR Go.Proofs.Ytefgcckdlebfaaa.RkK Go.Proofs.Ytefgcckdlebfaaa.RkP Go.Proofs.Ytefgcckdlebfaaa.RkQ Go.Proofs.Ytefgcckdlebfaaa.RkE Go.Proofs.Ytefgcckdlebfaaa.RkS Go.Proofs.Ytefgcckdlebfaaa.RkN Go.Proofs.Ytefgcckdlebfaaa.RkV Go.Proofs.Ytefgcckdlebfaaa.RkU Go.Proofs.Ytefgcckdlebfaaa.RfA Go.Proofs.Ytefgcckdlebfaaa.RfP Go.Proofs.Ytefgcckdlebfaaa.RfS Go.Proofs.Ytefgcckdlebfaaa.RfW

def NwR (room : Int) (base : Nat) (w : World) (e : Ending) (w' : World) : Prop := ∃ T, e = .returned (ptr T) ∧ w.heap.size ≤ T ∧ Rf w' base T (newS room) none 0 0 none 0 0 none 0 0 ∧ Below w.heap.size w w'
theorem new_rf (w : World) (base : Nat) (n : Nat) (room : Int) (hb : base ≤ w.heap.size) (hn : (newS room).room = n) : NwR room base w (.returned (ptr w.heap.size)) (w.alloc (.cells #[.int .i64 n, .slice none 0 0, .slice none 0 0, .slice none 0 0, .int .i64 0, .bool false, .int .i64 0] 60)) := by
  subst hn
  exact ⟨w.heap.size, rfl, Nat.le_refl _, ⟨heap_alloc_new w _, hb, FilesT.nil _ _, Nat.le_refl _, FilesT.nil _ _, Nat.le_refl _, LooseAt.nil _ _⟩, below_alloc w _⟩
set_option maxHeartbeats 400000 in
theorem new_any (w : World) (base : Nat) (room : Int) (hb : base ≤ w.heap.size) : Calls Try.prog 11 #[.int .i64 room] w (NwR room base w) := by
  have key : ∀ n : Nat, (newS room).room = n → NwR room base w (.returned (ptr w.heap.size)) (w.alloc (.cells #[.int .i64 n, .slice none 0 0, .slice none 0 0, .slice none 0 0, .int .i64 0, .bool false, .int .i64 0] 60)) := fun n hn => new_rf w base n room hb hn
  by_cases h0 : room ≤ 0
  · have HP := Lib.hid (key 0 (by unfold newS; dsimp only; omega))
    clear key
    rcases Int.lt_or_eq_of_le h0 with h0 | rfl
    all_goals
      go_enter Try.func11, Try.ntmps11
      go_wp2
      all_goals (go_ret; exact HP.out)
  · by_cases h1 : room ≤ 1000000
    · obtain ⟨n, rfl⟩ : ∃ n : Nat, room = n := ⟨room.toNat, by omega⟩
      have HP := Lib.hid (key n (by unfold newS; dsimp only; omega))
      clear key
      go_enter Try.func11, Try.ntmps11
      go_wp2
      all_goals (go_ret; exact HP.out)
    · have HP := Lib.hid (key 1000000 (by unfold newS; dsimp only; omega))
      clear key
      go_enter Try.func11, Try.ntmps11
      go_wp2
      all_goals (go_ret; exact HP.out)
section
variable {w : World} {base T : Nat} {s : St} {SA NA LA : Option Addr} {sn sc nn nc ln lc : Nat}
set_option maxHeartbeats 1000000 in
theorem flush_any (h : Rf w base T s NA nn nc SA sn sc LA ln lc) (hn : nn ≤ 1000) :
    Calls Try.prog 17 #[ptr T] w (RfPost w base T LA (flS s) (.returned (.int .i64 (flE s)))) := by
  unfold flS flE
  cases hd : s.down with
  | true =>
    simp only [if_true]
    have HP := Lib.hid (RfPost.same h (Below.refl _ _) (.returned (.int .i64 5)))
    obtain ⟨c0, c1, c2, c3, c4, c5, c6, cf⟩ := h.cells rfl
    rw [hd] at c5
    clear h cf hd
    unfold ptr
    go_enter Try.func17, Try.ntmps17
    go_wp2
    go_ret
    exact HP.out
  | false =>
    rw [if_neg (by decide), if_neg (by decide)]
    obtain ⟨rs, he, hR⟩ := h.files
    have HS := Lib.hid hR.src
    have HP := Lib.hid (fun (w1 : World) (A1 : Option Addr) (k1 : Nat) (hk : nn ≤ k1) (hb : Below w.heap.size w w1) (ho : w1.ownsRow w.heap.size 50 2 (.slice A1 nn k1) nn (fc rs)) => show RfPost w base T LA { s with sure := s.files, loose := [] } (.returned (.int .i64 0)) (.returned (.int .i64 0)) ((w1.setCell { block := T, off := 2 } (.slice A1 nn k1)).setCell { block := T, off := 3 } (.slice none 0 0)) by
      have hr1 := h.below hb
      have hf : FilesT w1 A1 nn s.files := ⟨rs, he, filesR_own ho fun r hr => ⟨(hR.2.1 r hr).1.kp (Kp.below hb (Nat.le_refl _)), (hR.2.1 r hr).2⟩⟩
      have hF : Fr w1 ((w1.setCell { block := T, off := 2 } (.slice A1 nn k1)).setCell { block := T, off := 3 } (.slice none 0 0)) T LA := ((Fr.of (Below.refl _ _)).set 2 _).set 3 _
      refine RfPost.lift (Fr.of hb) ⟨rfl, none, ⟨NA, nn, nc, A1, nn, k1, 0, 0, hr1.turn hF ?_ hr1.files hr1.ncap hf hk (LooseAt.nil _ _)⟩, hF, fun ad e => by cases e⟩
      exact (hr1.head.stored 2 _).stored 3 _)
    rw [hd] at HP
    obtain ⟨c0, c1, c2, c3, c4, c5, c6, cf⟩ := h.cells rfl
    rw [hd] at c5
    have HC := Lib.hid (fun (w1 : World) (hb : Below w.heap.size w w1) => (h.below hb).cells rfl)
    clear h cf hd hR he
    unfold ptr
    go_enter Try.func17, Try.ntmps17
    go_wp2_with (at_builtin; go_loud (
       refine wpList_rows elF rfl _ _ rfl rfl rfl (World.ownsRow_nil _ w.heap.size 50 2) HS.out (by unfold maxLen; omega) (by omega) (Nat.le_refl _) ?_
       intro v6 w6 hown hg6 _
       rw [Nat.zero_add, List.nil_append] at hown
       obtain ⟨A1, k1, rfl, hk1⟩ := RkR.own_slice hown
       have HB6 := below_none hg6
       have HP6 := Lib.hid (HP.out w6 A1 k1 hk1 HB6 hown)
       obtain ⟨d0, d1, d2, d3, d4, d5, d6, df⟩ := HC.out w6 HB6
       have f2 := df 2
       have f3 := df 3
       clear df hown hg6 HB6 c0 c1 c2 c3 c4 c5 c6))
    go_ret
    exact HP6.out
set_option maxHeartbeats 1000000 in
theorem fuse_any (h : Rf w base T s NA nn nc SA sn sc LA ln lc) (n : Int) :
    Calls Try.prog 21 #[ptr T, .int .i64 n] w (RfPost w base T LA (fuR s n) (.returned (.tuple #[]))) := by
  have hF0 : Fr w (w.setCell { block := T, off := 4 } (.int .i64 0)) T LA := (Fr.of (Below.refl _ _)).set 4 _
  obtain ⟨c0, c1, c2, c3, c4, c5, c6, cf⟩ := h.cells rfl
  have f4 := cf 4
  have hR0 := h.head.stored 4 (.int .i64 0)
  have g4 : (w.setCell { block := T, off := 4 } (.int .i64 0)).cell? { block := T, off := 4 } = some (.int .i64 0) := hR0.cell 4
  have gf : (w.setCell { block := T, off := 4 } (.int .i64 0)).frozen? { block := T, off := 4 } = false := hR0.frozen 4
  by_cases hz : 0 ≤ n ∧ n < 1099511627776
  · obtain ⟨m, rfl⟩ : ∃ m : Nat, n = m := ⟨n.toNat, by omega⟩
    have hF1 : Fr w ((w.setCell { block := T, off := 4 } (.int .i64 0)).setCell { block := T, off := 4 } (.int .i64 ((m : Int) + 1))) T LA := hF0.set 4 _
    have HP := Lib.hid (show RfPost w base T LA (fuR s (m : Int)) (.returned (.tuple #[])) (.returned (.tuple #[])) ((w.setCell { block := T, off := 4 } (.int .i64 0)).setCell { block := T, off := 4 } (.int .i64 ((m : Int) + 1))) by
      have e : fuR s (m : Int) = { s with fuse := some m } := by unfold fuR; rw [if_pos hz, Int.toNat_natCast]
      rw [e]
      refine ⟨rfl, LA, ⟨NA, nn, nc, SA, sn, sc, ln, lc, h.turn hF1 ?_ h.files h.ncap h.sure h.scap (loose_set (loose_set h.loose h.head 4 _) hR0 4 _)⟩, hF1, LNew.refl w LA⟩
      exact hR0.stored 4 _)
    have hz3 : (m : Int) < 1099511627776 := hz.2
    have hz1 : decide ((0 : Int) ≤ (m : Int)) = true := decide_eq_true (by omega)
    have hz2 : decide ((m : Int) < 1099511627776) = true := decide_eq_true hz3
    clear h cf hF0 hF1 hz hR0
    unfold ptr
    go_enter Try.func21, Try.ntmps21
    go_wp2
    go_end0
    exact HP.out
  · have HP := Lib.hid (show RfPost w base T LA (fuR s n) (.returned (.tuple #[])) (.returned (.tuple #[])) (w.setCell { block := T, off := 4 } (.int .i64 0)) by
      have e : fuR s n = { s with fuse := none } := by unfold fuR; rw [if_neg hz]
      rw [e]
      refine ⟨rfl, LA, ⟨NA, nn, nc, SA, sn, sc, ln, lc, h.turn hF0 ?_ h.files h.ncap h.sure h.scap (loose_set h.loose h.head 4 _)⟩, hF0, LNew.refl w LA⟩
      exact hR0)
    clear h cf hF0 hR0
    unfold ptr
    by_cases h0 : 0 ≤ n
    · have hz1 : decide ((0 : Int) ≤ n) = true := decide_eq_true h0
      have hz2 : decide (n < 1099511627776) = false := decide_eq_false fun h => hz ⟨h0, h⟩
      clear hz
      go_enter Try.func21, Try.ntmps21
      go_wp2
      go_end0
      exact HP.out
    · have hz1 : decide ((0 : Int) ≤ n) = false := decide_eq_false h0
      clear hz
      go_enter Try.func21, Try.ntmps21
      go_wp2
      go_end0
      exact HP.out
set_option maxHeartbeats 2000000 in
theorem read_any (h : Rf w base T s NA nn nc SA sn sc LA ln lc) {k : Nat} (hk : Ok k s) (h6 : k ≤ 1000) (n : ByteArray) :
    Calls Try.prog 23 #[ptr T, .string n] w (RdPost (rdF s n) w) := by
  have hl := h.files.len
  have hn : nn ≤ 1000 := by have := hk.files.len; omega
  have KP := Lib.hid (at_any (cap := nc) n (by omega) hk.files.srt h.files)
  unfold atI at KP
  obtain ⟨c0, c1, c2, c3, c4, c5, c6, _⟩ := h.cells rfl
  have HT := Lib.hid (fun (w1 : World) (hb : Below w.heap.size w w1) => (h.below hb).cells rfl)
  unfold ptr
  cases hd : s.down with
  | true =>
    rw [rdF_down hd]
    rw [hd] at c5
    obtain ⟨i, hi⟩ : ∃ i, i = if hitF n s.files then ((lo cmpS n s.files : Nat) : Int) else -1 := ⟨_, rfl⟩
    rw [← hi] at KP
    rw [hd] at HT
    clear h hi hd
    go_enter Try.func23, Try.ntmps23
    go_wp2_with (go_at_call 43; go_loud (refine KP.out.mono ?_; rintro e w1 ⟨rfl, hb1⟩; have HB1 := Lib.hid hb1; obtain ⟨_, d1, _, _, _, d5, _, _⟩ := HT.out w1 hb1; clear hb1))
    go_ret2
    exact ⟨none, 0, 0, rfl, ByT.nil _ _, Nat.le_refl _, HB1.out⟩
  | false =>
    rw [hd] at HT
    cases hh : hitF n s.files with
    | false =>
      rw [rdF_miss hh]
      rw [hh, if_neg (by decide)] at KP
      clear h hh hd
      go_enter Try.func23, Try.ntmps23
      go_wp2_with (go_at_call 43; go_loud (refine KP.out.mono ?_; rintro e w1 ⟨rfl, hb1⟩; have HB1 := Lib.hid hb1; obtain ⟨_, d1, _, _, _, d5, _, _⟩ := HT.out w1 hb1; clear hb1))
      go_ret2
      exact ⟨none, 0, 0, rfl, ByT.nil _ _, Nat.le_refl _, HB1.out⟩
    | true =>
      obtain ⟨d, hg, hr⟩ := rdF_hit hd hh
      rw [hr]
      rw [hh, if_pos rfl] at KP
      have hlt := hitF_lt hh
      obtain ⟨i, hi⟩ : ∃ i, i = lo cmpS n s.files := ⟨_, rfl⟩
      rw [← hi] at KP hg hlt
      have hin : i < nn := by omega
      have hdz := (hk.files.sz _ (List.mem_of_getElem? hg)).2
      have hdz : d.length ≤ 200000 := hdz
      have HF := Lib.hid h.files
      have HG := Lib.hid hg
      have HDZ := Lib.hid hdz
      have hi0 : (0 : Int) ≤ (i : Int) := by omega
      have hi2 : decide ((i : Int) < 0) = false := decide_eq_false (by omega)
      have hi1 : (i : Int) < (nn : Int) := by omega
      clear h hh hd hr hi hg hlt hdz
      go_enter Try.func23, Try.ntmps23
      go_upto_region 4 with (go_at_call 43; go_loud (refine KP.out.mono ?_; rintro e w1 ⟨rfl, hb1⟩; have HB1 := Lib.hid hb1; obtain ⟨_, d1, _, _, _, d5, _, _⟩ := HT.out w1 hb1; clear hb1))
      obtain ⟨ad, x, K, kd, kc, rfl, hp, e1, e2, hle, hby⟩ := HF.out.sp (Kp.below HB1.out (Nat.le_refl _)) hin
      have hxd : (x, kd) = (n, d) := Option.some.inj (hp.symm.trans HG.out)
      obtain rfl : kd = d := congrArg Prod.snd hxd
      have HBY := Lib.hid hby.at_
      have HDZ2 := HDZ.out
      obtain ⟨m, hm⟩ : ∃ m, m = kd.length := ⟨_, rfl⟩
      rw [← hm] at e2 HBY HDZ2
      clear hp hxd hle hby hm c0 c1 c2 c3 c4 c5 c6
      go_wp2_with (at_builtin; go_loud (
         refine PkKit.wpList_by rfl _ _ rfl rfl rfl (World.ownsRow_nil _ _ _ _ : _root_.Go.World.ownsRow _ _ 5 1 (.slice none 0 0) 0 (PkKit.by_ [])) HBY.out (by omega) (Nat.le_refl _) ?_
         intro v2 w2 hown hg _
         rw [Nat.zero_add] at hown
         obtain ⟨A2, k2, rfl, hk2⟩ := RkR.own_slice hown
         have HD2 := Lib.hid (byT_own (d := kd) (by simpa [PkKit.by_, Lib.byteCells] using hown))
         have HB2 := Lib.hid (HB1.out.trans ((below_none hg).mono HB1.out.size))
         clear hown hg))
      go_ret2
      exact ⟨A2, m, k2, rfl, HD2.out, hk2, HB2.out⟩
end
end Go.Proofs.Ytefgcckdlebfaaa.RfF
