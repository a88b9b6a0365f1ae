/-
  What is sure, a file's data; the fuse; all made sure.
-/
import Derived.Test.YtolkghdeppoanaaRkM
set_option linter.unusedVariables false
set_option linter.unusedSimpArgs false
namespace Go.Proofs.Ytolkghdeppoanaa.RkN
open Go.RowKit Go.Proofs.Ytolkghdeppoanaa.BxD Go.Proofs.Ytolkghdeppoanaa.BxKit Go.Proofs.Ytolkghdeppoanaa.RkO Go.Proofs.Ytolkghdeppoanaa.RkC Go.Proofs.Ytolkghdeppoanaa.RkD Go.Proofs.Ytolkghdeppoanaa.RkR Go.Proofs.Ytolkghdeppoanaa.RkK Go.Proofs.Ytolkghdeppoanaa.RkP Go.Proofs.Ytolkghdeppoanaa.RkQ Go.Proofs.Ytolkghdeppoanaa.RkE Go.Proofs.Ytolkghdeppoanaa.RkS Go.Proofs.Ytolkghdeppoanaa.RkM

/-- Files told, in memory of the call's own. -/
def SuPost (l : List F) (w : World) (e : Ending) (w' : World) : Prop := ∃ A c, e = .returned (.slice A l.length c) ∧ l.length ≤ c ∧ FilesT w' A l.length l ∧ Below w.heap.size w w'
/-- A file's data, and whether it is there. -/
def RdPost (o : Option (List UInt8)) (w : World) (e : Ending) (w' : World) : Prop :=
  ∃ A m c, e = .returned (.tuple #[.slice A m c, .bool o.isSome]) ∧ ByT w' A m (o.getD []) ∧ m ≤ c ∧ Below w.heap.size w w'
set_option maxRecDepth 100000 in
theorem rdF_down {s : St} (h : s.down = true) (n : ByteArray) : rdF s n = none := by unfold rdF; rw [if_pos h]
set_option maxRecDepth 100000 in
theorem rdF_miss {s : St} {n : ByteArray} (h : hitF n s.files = false) : rdF s n = none := by
  unfold rdF
  split
  · rfl
  · unfold hitF hit at h
    split
    · rename_i f hf
      rw [hf] at h
      have hne : ¬ cmpS f.1 n = 0 := by simpa using h
      rw [if_neg (fun e => hne ((ordS.eq0 _ _).2 e))]
    · rfl
set_option maxRecDepth 100000 in
theorem rdF_hit {s : St} {n : ByteArray} (hd : s.down = false) (h : hitF n s.files = true) : ∃ d, s.files[lo cmpS n s.files]? = some (n, d) ∧ rdF s n = some d := by
  obtain ⟨d, hv⟩ := (hit_iff ordS).1 h
  refine ⟨d, hv, ?_⟩
  unfold rdF
  rw [if_neg (by rw [hd]; decide), hv]
  simp
set_option maxRecDepth 100000 in
theorem own_ty {w : World} {base n : Nat} {v : Value} {xs : List Value} (h : w.ownsRow base 44 2 v n xs) : ∀ g, v.ownBlock = some g → ∃ cs t fr, w.heap[g]? = some (.cells cs t fr) ∧ t ≠ 5 := by
  intro g hg
  rcases h.2 with ⟨rfl, _⟩ | ⟨g', cap, cur, rfl, hb, hgg, _⟩
  · cases hg
  · obtain rfl : g' = g := Option.some.inj hg
    exact ⟨_, _, _, hgg, by decide⟩
section
variable {w : World} {base T : Nat} {s : St} {SA FA LA : Option Addr} {sn sc fn fcp ln lc : Nat}
set_option maxRecDepth 100000 in
set_option maxHeartbeats 1000000 in
theorem read_any (h : Rk w base T s SA sn sc FA fn fcp LA ln lc) {k : Nat} (hk : Ok k s) (h6 : k ≤ 1000) (n : ByteArray) :
    Calls Try.prog 39 #[ptr T, .string n] w (RdPost (rdF s n) w) := by
  have hl := h.files.len
  have hn : fn ≤ 1000 := by have := hk.files.len; omega
  obtain ⟨c0, c1, c2, c3, c4, c5, c6, c7, _⟩ := h.cells rfl
  unfold ptr
  cases hd : s.down with
  | true =>
    rw [rdF_down hd]
    rw [hd] at c5
    clear h
    go_enter Try.func39, Try.ntmps39
    go_wp2
    go_ret2
    exact ⟨none, 0, 0, rfl, ByT.nil _ _, Nat.le_refl _, Below.refl _ _⟩
  | false =>
    rw [hd] at c5
    have KP := Lib.hid (place_any (cap := fcp) n (by omega) hk.files.srt h.files)
    unfold PlPost at KP
    cases hh : hitF n s.files with
    | false =>
      rw [rdF_miss hh]
      rw [hh] at KP
      clear h hh hd
      go_enter Try.func39, Try.ntmps39
      go_wp2_with (go_at_call 61; go_loud (refine KP.out.mono ?_; rintro e w1 ⟨rfl, hb1⟩; have HB1 := Lib.hid hb1; clear hb1))
      go_ret2
      exact ⟨none, 0, 0, rfl, ByT.nil _ _, Nat.le_refl _, HB1.out⟩
    | true =>
      obtain ⟨d, hg, hr⟩ := rdF_hit hd hh
      rw [hr]
      rw [hh] at KP
      have hlt := hitF_lt hh
      obtain ⟨i, hi⟩ : ∃ i, i = lo cmpS n s.files := ⟨_, rfl⟩
      rw [← hi] at KP hg hlt
      have hin : i < fn := by omega
      have hdz := (hk.files.sz _ (List.mem_of_getElem? hg)).2
      have hdz : d.length ≤ 200000 := hdz
      have HF := Lib.hid h.files
      have HT := Lib.hid h.lt
      have HG := Lib.hid hg
      have HDZ := Lib.hid hdz
      have hi0 : (0 : Int) ≤ (i : Int) := by omega
      have hi1 : (i : Int) < (fn : Int) := by omega
      clear h hh hd hr hi hg hlt hdz
      go_enter Try.func39, Try.ntmps39
      go_upto_region 6 with (go_at_call 61; go_loud (refine KP.out.mono ?_; rintro e w1 ⟨rfl, hb1⟩; have HB1 := Lib.hid hb1; clear hb1))
      have d2 : w1.cell? { block := T, off := 2 } = some (.slice FA fn fcp) := (HB1.out.cell (p := ⟨T, 2, none⟩) HT.out).trans c2
      obtain ⟨ad, x, K, kd, kc, rfl, hp, e1, e2, hle, hby⟩ := HF.out.sp (Kp.below HB1.out (Nat.le_refl _)) hin
      have hxd : (x, kd) = (n, d) := Option.some.inj (hp.symm.trans HG.out)
      obtain rfl : kd = d := congrArg Prod.snd hxd
      have KC := Lib.hid (clone_any (cap := kc) hby.at_ (Nat.le_refl _) (by have := HDZ.out; omega))
      obtain ⟨m, hm⟩ : ∃ m, m = kd.length := ⟨_, rfl⟩
      unfold ClB at KC
      rw [← hm] at e2 KC
      clear hp hxd hle hby hm c0 c1 c2 c3 c4 c5 c6 c7
      go_wp2_with (go_at_call 47; go_loud (refine KC.out.mono ?_; rintro e w2 ⟨A2, k2, rfl, hk2, hb2, hw2⟩; have HD2 := Lib.hid hb2; have HB2 := Lib.hid (HB1.out.trans (hw2.mono HB1.out.size)); clear hb2 hw2))
      go_ret2
      exact ⟨A2, m, k2, rfl, HD2.out, hk2, HB2.out⟩

set_option maxRecDepth 100000 in
set_option maxHeartbeats 2000000 in
theorem sure_any (h : Rk w base T s SA sn sc FA fn fcp LA ln lc) {k : Nat} (hk : Ok k s) (h6 : k ≤ 1000) :
    Calls Try.prog 20 #[ptr T] w (SuPost s.sure w) := by
  have hl := h.sure.len
  have hn : sn ≤ 1000 := by have := hk.loose; omega
  have HF := Lib.hid h.sure
  have HL := Lib.hid hl
  have HZ := Lib.hid hk.sure.sz
  obtain ⟨c0, c1, c2, c3, c4, c5, c6, c7, _⟩ := h.cells rfl
  clear h hl
  unfold ptr
  go_enter Try.func20, Try.ntmps20
  go_wp2_with fail
  clear c0 c1 c2 c3 c4 c5 c6 c7
  go_loopw [13, 3] (fun s13 s3 wr => ∃ (q : Nat) (v : Value) (rs : List RF), v = s3 ∧ q ≤ sn ∧ s13 = .int .i64 q ∧ Hid (Below w.heap.size w wr) ∧ Hid (rs.map fOf = s.sure.take q) ∧ Hid (∀ r ∈ rs, DOk wr r) ∧ Hid (wr.ownsRow w.heap.size 44 2 v q (fc rs))) (fun s13 _ _ => sn - (intOf s13).toNat)
  case atStart => exact ⟨0, _, [], rfl, Nat.zero_le _, rfl, Below.refl _ _, rfl, fun r hr => by simp at hr, World.ownsRow_nil _ _ _ _⟩
  case round =>
    obtain ⟨q, v, rs, rfl, hq, rfl, HB, HE, HD, HO⟩ := hrel
    have hsz := HB.out.size
    by_cases hlt : q < sn
    · obtain ⟨ad, x, K, kd, kc, rfl, hp, d1, d2, hle, hby⟩ := HF.out.sp (Kp.below HB.out (Nat.le_refl _)) (j := q) hlt
      have HP := Lib.hid hp
      have hdz : kd.length ≤ 200000 := (HZ.out _ (List.mem_of_getElem? hp)).2
      have KC := Lib.hid (clone_any (cap := kc) (w := (wr.alloc (.cells #[.string x, .slice K kd.length kc] 44)).drew) (hby.kp (Kp.alloc wr (.cells #[.string x, .slice K kd.length kc] 44))).at_ (Nat.le_refl _) (by omega))
      obtain ⟨m, hm⟩ : ∃ m, m = kd.length := ⟨_, rfl⟩
      unfold ClB at KC
      rw [← hm] at d2 KC
      have HM := Lib.hid hm
      clear hp hm hle hby hdz
      go_upto_region 7 with fail
      have b0 : (wr.alloc (.cells #[.string x, .slice K m kc] 44)).cell? { block := wr.heap.size, off := 0 } = some (.string x) := by simp
      have b1 : (wr.alloc (.cells #[.string x, .slice K m kc] 44)).cell? { block := wr.heap.size, off := 1 } = some (.slice K m kc) := by simp
      go_region_held3 (fun wq => wq.cell? { block := wr.heap.size, off := 0 } = some (.string x) ∧ wq.cell? { block := wr.heap.size, off := 1 } = some (.slice K m kc)) (with_reducible first | exact ⟨b0, b1⟩ | exact f0 | exact g0 | go_keep) (first
        | (go_at_call 47; go_loud (
           refine KC.out.mono ?_
           rintro e w2 ⟨A2, k2, rfl, hk2, hb2, hw2⟩
           have HD2 := Lib.hid hb2
           have HB2 := Lib.hid ((HB.out.alloc hsz (.cells #[.string x, .slice K m kc] 44)).drew.trans (hw2.mono (by simp; omega)))
           have HW2 := Lib.hid (show Below wr.heap.size wr w2 from ((below_alloc wr (.cells #[.string x, .slice K m kc] 44)).drew).trans (hw2.mono (by simp)))
           have f0 : w2.cell? { block := wr.heap.size, off := 0 } = some (.string x) ∧ w2.cell? { block := wr.heap.size, off := 1 } = some (.slice K m kc) := ⟨(hw2.cell (p := ⟨wr.heap.size, 0, none⟩) (by simp)).trans b0, (hw2.cell (p := ⟨wr.heap.size, 1, none⟩) (by simp)).trans b1⟩
           have HS2 := Lib.hid (show wr.heap.size < w2.heap.size by have hs2 := hw2.size; simp at hs2; omega)
           clear hb2 hw2
           dsimp only))
        | (show (if Region.wanted ⟨some 25, _, _, _, _, _⟩ _ = true then _ else _)
           go_loud (
           refine step_rows (base := w.heap.size) (c := 1) elF rfl (.tmp 17) (.tmp 24) rfl rfl rfl ((HO.out.kept (RkO.grown_below HW2.out (row := none)) (by cases hv : v.ownBlock <;> simp)).alloc (.cells #[.string x, .slice A2 m k2] 44)) (src_new w2 #[.string x, .slice A2 m k2] 44 (m := 1) (sz := 2) rfl rfl (fun u hu => by simp at hu; rcases hu with rfl | rfl <;> rfl)) (by unfold maxLen; omega) (by omega) (by have := HB2.out.size; simp; omega) ?_
           intro v6 w6 hown hg6 _
           have HO6 := Lib.hid (show w6.ownsRow w.heap.size 44 2 v6 (q + 1) (fc (rs ++ [(x, ⟨A2, k2, kd⟩)])) by rw [fc_append, one_eq]; unfold cell2; rw [← HM.out]; exact hown)
           have HK6 := Lib.hid (show Ku wr w6 from ((Kp.below HW2.out (Nat.le_refl _)).ku.trans (Kp.alloc w2 (.cells #[.string x, .slice A2 m k2] 44)).ku).trans (Ku.grown hg6 (own_ty ((HO.out.kept (RkO.grown_below HW2.out (row := none)) (by cases hv : v.ownBlock <;> simp)).alloc (.cells #[.string x, .slice A2 m k2] 44)))))
           have HD6 := Lib.hid (show ByT w6 A2 m kd from HD2.out.ku ((Kp.alloc w2 (.cells #[.string x, .slice A2 m k2] 44)).ku.trans (Ku.grown hg6 (own_ty ((HO.out.kept (RkO.grown_below HW2.out (row := none)) (by cases hv : v.ownBlock <;> simp)).alloc (.cells #[.string x, .slice A2 m k2] 44))))))
           have HB6 := Lib.hid ((HB2.out.alloc HB2.out.size (.cells #[.string x, .slice A2 m k2] 44)).grown hg6 (by have := HB2.out.size; simp; omega) (fun g e => (HO.out.lt g e).1))
           have hcl : ∀ o u, w2.cell? { block := wr.heap.size, off := o } = some u → w6.cell? { block := wr.heap.size, off := o } = some u := fun o u hu => hg6.cell (((below_alloc w2 (.cells #[.string x, .slice A2 m k2] 44)).cell (p := ⟨wr.heap.size, o, none⟩) HS2.out).trans hu) (fun e2 => absurd (HO.out.lt _ e2.symm).2 (Nat.lt_irrefl _))
           have g0 : w6.cell? { block := wr.heap.size, off := 0 } = some (.string x) ∧ w6.cell? { block := wr.heap.size, off := 1 } = some (.slice K m kc) := ⟨hcl 0 _ f0.1, hcl 1 _ f0.2⟩
           clear hown hg6 hcl
           dsimp only)))
      rename_i hHeld
      clear hHeld
      have HDn : Hid (∀ r ∈ rs ++ [(x, ⟨A2, k2, kd⟩)], DOk w6 r) := by
        intro r hr
        rcases List.mem_append.1 hr with hr | hr
        · exact ⟨(HD.out r hr).1.ku HK6.out, (HD.out r hr).2⟩
        · obtain rfl := List.mem_singleton.1 hr
          have h1 := HD6.out
          have h2 := HM.out
          subst h2
          exact ⟨h1, hk2⟩
      go_wp2_with fail
      go_roundw
      case rel =>
        refine ⟨q + 1, _, rs ++ [(x, ⟨A2, k2, kd⟩)], rfl, by omega, by go_num, HB6, ?_, ?_, HO6⟩
        · show List.map fOf (rs ++ [((x, ⟨A2, k2, kd⟩) : RF)]) = s.sure.take (q + 1)
          obtain ⟨hl1, e1⟩ := List.getElem?_eq_some_iff.1 HP.out
          rw [List.map_append, HE.out, List.take_succ_eq_append_getElem hl1, e1]; rfl
        · exact HDn
      case measure => simp [intOf]; omega
    · obtain rfl : sn = q := by omega
      have ho := HO.out
      have he := HE.out
      rw [List.take_of_length_le (by rw [HL.out]; exact Nat.le_refl _)] at he
      obtain ⟨A6, k6, rfl, hk6⟩ := RkR.own_slice ho
      have HP := Lib.hid (show SuPost s.sure w (.returned (.slice A6 sn k6)) wr by
        unfold SuPost
        rw [HL.out]
        exact ⟨A6, k6, rfl, hk6, ⟨rs, he, filesR_own ho HD.out⟩, HB.out⟩)
      clear ho he
      go_wp2_with fail
      go_ret
      exact HP.out

def fuO (n : Int) : Option Nat := if n < 0 then none else some n.toNat
set_option maxRecDepth 100000 in
set_option maxHeartbeats 1000000 in
theorem fuse_any (h : Rk w base T s SA sn sc FA fn fcp LA ln lc) (n : Int) :
    Calls Try.prog 22 #[ptr T, .int .i64 n] w (RkPost w base T LA (fuS s (fuO n)) (.returned (.tuple #[]))) := by
  have HFin := Lib.hid (fun (b : Bool) (m : Nat) (hb : (fuO n).isSome = b) (hm : fuseV (fuO n) = (m : Int)) => show RkPost w base T LA (fuS s (fuO n)) (.returned (.tuple #[])) (.returned (.tuple #[])) ((w.setCell { block := T, off := 6 } (.bool b)).setCell { block := T, off := 7 } (.int .i64 m)) by
    refine ⟨rfl, LA, ⟨SA, sn, sc, FA, fn, fcp, ln, lc, h.turn (((Fr.of (Below.refl _ _)).set 6 _).set 7 _) ?_ h.sure h.scap h.files h.fcap (h.loose.keep (h.kp (((Fr.of (Below.refl _ _)).set 6 _).set 7 _)) (RkO.grown_trans (setCell_grown w ⟨T, 6, none⟩ _) (setCell_grown _ ⟨T, 7, none⟩ _)) fun ad e e2 => h.TL e (Option.some.inj e2))⟩, ((Fr.of (Below.refl _ _)).set 6 _).set 7 _, LNew.refl w LA⟩
    have := (h.head.stored 6 (.bool b)).stored 7 (.int .i64 m)
    rw [← hb, ← hm] at this
    rw [← hb, ← hm]
    exact this)
  obtain ⟨c0, c1, c2, c3, c4, c5, c6, c7, cf⟩ := h.cells rfl
  have f6 := cf 6
  have f7 := cf 7
  clear h cf
  unfold ptr
  by_cases h0 : n < 0
  · have hb : fuO n = none := if_pos h0
    have HP := Lib.hid (HFin.out false 0 (by rw [hb]; rfl) (by rw [hb]; rfl))
    clear HFin hb
    go_enter Try.func22, Try.ntmps22
    go_wp2
    go_end0
    rw [show decide ((0 : Int) ≤ n) = false from decide_eq_false (by omega)]
    exact HP.out
  · obtain ⟨m, rfl⟩ : ∃ m : Nat, n = m := ⟨n.toNat, by omega⟩
    have hb : fuO (m : Int) = some m := by unfold fuO; rw [if_neg h0]; simp
    have HP := Lib.hid (HFin.out true m (by rw [hb]; rfl) (by rw [hb]; rfl))
    clear HFin hb
    rcases Nat.eq_zero_or_pos m with rfl | hm
    · go_enter Try.func22, Try.ntmps22
      go_wp2
      go_end0
      exact HP.out
    · go_enter Try.func22, Try.ntmps22
      go_wp2
      all_goals (go_end0; exact HP.out)
end
end Go.Proofs.Ytolkghdeppoanaa.RkN
