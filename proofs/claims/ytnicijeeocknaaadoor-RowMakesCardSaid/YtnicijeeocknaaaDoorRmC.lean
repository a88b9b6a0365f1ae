/-
  The document's with: all words, the rows that add the new ones.
-/
import Derived.Test.YtnicijeeocknaaaDoorRmB
import Derived.Test.YtnicijeeocknaaaDoorRwRo
import Derived.Test.YtnicijeeocknaaaDoorN5
set_option linter.unusedVariables false
set_option linter.unusedSimpArgs false
namespace Go.Proofs.YtnicijeeocknaaaDoor.RmC
open Go.RowKit Go.Proofs.YtnicijeeocknaaaDoor.BxD Go.Proofs.YtnicijeeocknaaaDoor.BxKit Go.Proofs.YtnicijeeocknaaaDoor.BxA Go.Proofs.YtnicijeeocknaaaDoor.BxR Go.Proofs.YtnicijeeocknaaaDoor.BxC Go.Proofs.YtnicijeeocknaaaDoor.RwD Go.Proofs.YtnicijeeocknaaaDoor.RwM Go.Proofs.YtnicijeeocknaaaDoor.RwKit Go.Proofs.YtnicijeeocknaaaDoor.RwRo Go.Proofs.YtnicijeeocknaaaDoor.RmD Go.Proofs.YtnicijeeocknaaaDoor.RmA Go.Proofs.YtnicijeeocknaaaDoor.RmB

theorem own_apart {w : World} {b1 b2 e1 e2 s1 s2 n1 n2 : Nat} {v1 v2 : Value} {x1 x2 : List Value} (h1 : w.ownsRow b1 e1 s1 v1 n1 x1) (h2 : w.ownsRow b2 e2 s2 v2 n2 x2) (hne : e1 ≠ e2) : v1.ownBlock = none ∨ v1.ownBlock ≠ v2.ownBlock := by
  rcases h1.2 with ⟨hv, _⟩ | ⟨g, cap, cur, hv, _, hg, _⟩
  · subst hv; exact .inl rfl
  · right
    rcases h2.2 with ⟨hv2, _⟩ | ⟨g2, cap2, cur2, hv2, _, hg2, _⟩
    · subst hv hv2; intro e; cases e
    · subst hv hv2
      intro e
      obtain rfl : g = g2 := Option.some.inj e
      rw [hg] at hg2
      injection hg2 with hg2
      injection hg2 with _ e2
      exact hne e2
theorem strs_size {w : World} {B n : Nat} {A : Option Addr} {l : List ByteArray} (h : StrsAt w B A n l) : ∀ x ∈ l, x.size ≤ 140737488355328 := fun x hx => by
  obtain ⟨i, hi⟩ := List.mem_iff_getElem?.1 hx
  obtain ⟨ad, y, _, _, hy, hc⟩ := h.get (j := i) (by rw [← h.len]; exact (List.getElem?_eq_some_iff.1 hi).1)
  rw [hi] at hy
  obtain rfl := Option.some.inj hy
  exact hc.2
/-- The raw rows that add words. -/
def wRaw (x : ByteArray) : RRaw := ⟨wRow x, none, 0⟩
theorem wRaw_r (l : List ByteArray) : (l.map wRaw).map RRaw.r = l.map wRow := by rw [List.map_map]; rfl
theorem wRaw_keys {w : World} {B : Nat} {l : List ByteArray} (h : ∀ x ∈ l, x.size ≤ 140737488355328) : RKeys w B (l.map wRaw) := fun q hq => by
  obtain ⟨x, hx, rfl⟩ := List.mem_map.1 hq
  exact ⟨RowAt.nil _ _ _ _ _, Nat.le_refl _, by show (⟨#[]⟩ : ByteArray).size ≤ _; decide, by show (⟨#[]⟩ : ByteArray).size ≤ _; decide, h x hx⟩
theorem wRaw_cells (x : ByteArray) : cell11 (wRaw x) = [.int .i64 4, .int .i64 0, .int .i64 0, .int .i64 0, .int .i64 0, .int .i64 0, .string ⟨#[]⟩, .int .i64 0, .slice none 0 0, .string ⟨#[]⟩, .string x] := rfl
/-- What with tells. -/
def WiPost (ws words : List ByteArray) (w : World) (e : Ending) (w' : World) : Prop :=
  ∃ A1 n1 c1 A2 n2 c2, e = .returned (.tuple #[.slice A1 n1 c1, .slice A2 n2 c2]) ∧ n1 ≤ c1 ∧ n2 ≤ c2 ∧ n1 = (allW ws words).length ∧ n2 = (newW ws words).length ∧ StrsAt w' w'.heap.size A1 n1 (allW ws words) ∧
    w'.ownsRow w.heap.size 51 11 (.slice A2 n2 c2) n2 (rc ((newW ws words).map wRaw)) ∧ Below w.heap.size w w'
theorem step_take {words all : List ByteArray} {k : Nat} {x : ByteArray} (h : words[k]? = some x) : (words.take (k + 1)).foldl stepW all = stepW ((words.take k).foldl stepW all) x := by
  obtain ⟨hl, e⟩ := List.getElem?_eq_some_iff.1 h
  rw [List.take_succ_eq_append_getElem hl, e, List.foldl_append]; rfl
set_option maxHeartbeats 4000000 in
set_option maxRecDepth 100000 in
theorem with_any {w : World} {b : Box} {WA MA A : Option Addr} {wn wc mn mc n cp B : Nat} {words : List ByteArray} (hx : StrsAt w B WA wn b.words) (hz : StrsAt w B A n words) (hB : B ≤ w.heap.size) (hd : words.Nodup) (hwn : wn ≤ 1000000) (hn : n ≤ 1000000) :
    Calls Tryd.prog 25 #[.agg #[.string b.id, .int .i64 b.valid, .int .i64 b.next, .int .i64 b.high, .slice WA wn wc, .slice MA mn mc], .slice A n cp] w (WiPost b.words words w) := by
  have hb0 := (Below.refl w.heap.size w).alloc (Nat.le_refl _) (.cells #[.string b.id, .int .i64 b.valid, .int .i64 b.next, .int .i64 b.high, .slice WA wn wc, .slice MA mn mc] 25)
  have HB0 := Lib.hid hb0
  have hr0 := heap_alloc_new w (.cells #[.string b.id, .int .i64 b.valid, .int .i64 b.next, .int .i64 b.high, .slice WA wn wc, .slice MA mn mc] 25)
  have HX := Lib.hid hx
  have HZ := Lib.hid hz
  have HD := Lib.hid hd
  have HXS := Lib.hid (strs_size hx)
  have HZS := Lib.hid (strs_size hz)
  have hs0 : (w.alloc (.cells #[.string b.id, .int .i64 b.valid, .int .i64 b.next, .int .i64 b.high, .slice WA wn wc, .slice MA mn mc] 25)).heap.size = w.heap.size + 1 := by simp
  clear hb0 hx hz hd
  go_enter Tryd.func25, Tryd.ntmps25
  go_upto_region 1 with fail
  generalize (World.alloc w _) = w1 at HB0 hr0 hs0 ⊢
  have b4 := (six_at hr0).2.2.2.2.1
  go_upto_region 2 with (at_builtin; go_loud (
     refine wpList_rows elS rfl _ _ rfl rfl rfl (World.ownsRow_nil _ w.heap.size 9 1) (strs_src (StrsAt.below HX.out HB0.out hB)) (by unfold maxLen; omega) (by omega) (by omega) ?_
     intro v2 w2 hown hg _
     rw [Nat.zero_add, List.nil_append] at hown
     have HO2 := Lib.hid hown
     have HB2 := Lib.hid (HB0.out.grown hg HB0.out.size (fun k e => by cases e))
     clear hown hg))
  clear b4 hr0
  go_upto_region 4 with fail
  go_loopw [15, 6, 7] (fun s15 s6 s7 wr => ∃ (k p : Nat) (v1 v2 : Value) (ad : List ByteArray), v1 = s6 ∧ v2 = s7 ∧ k ≤ n ∧ p ≤ k ∧ s15 = .int .i64 k ∧ Hid (ad.length = p) ∧ Hid ((words.take k).foldl stepW b.words = b.words ++ ad) ∧ Hid (∀ x ∈ ad, x.size ≤ 140737488355328) ∧
      Hid (wr.ownsRow w.heap.size 9 1 v1 (wn + p) ((b.words ++ ad).map Value.string)) ∧ Hid (wr.ownsRow w.heap.size 51 11 v2 p (rc (ad.map wRaw))) ∧ Hid (Below w.heap.size w wr)) (fun s15 _ _ _ => n - (intOf s15).toNat)
  case atStart => exact ⟨0, 0, _, _, [], rfl, rfl, Nat.zero_le _, Nat.le_refl _, rfl, Lib.hid rfl, Lib.hid (by simp), Lib.hid (fun x hx => by simp at hx), Lib.hid (by simpa using HO2.out), Lib.hid (World.ownsRow_nil _ _ _ _), HB2⟩
  case round =>
    clear HO2 HB2
    obtain ⟨k, p, v1, v2, ad, rfl, rfl, hk, hp, rfl, HL, HE, HS, HO1, HO2, HB⟩ := hrel
    by_cases hlt : k < n
    · obtain ⟨ao, x, rfl, e1, m0⟩ := StrsAt.at_ HZ.out HB.out hB hlt
      have HST := Lib.hid (step_take (all := b.words) e1)
      have HXZ := Lib.hid (HZS.out x (List.mem_of_getElem? e1))
      have g0 : (0 : Int) ≤ (k : Int) := by omega
      have g1 : (k : Int) < (n : Int) := by omega
      obtain ⟨A1, c1, rfl, hc1⟩ := own_slice HO1.out
      have HSA := Lib.hid (strsAt_own HO1.out (by omega) (fun y hy => by
        rcases List.mem_append.1 hy with hy | hy
        · exact HXS.out y hy
        · exact HS.out y hy))
      have D := has_any (cp := c1) x HSA.out
      clear e1
      by_cases hm : x ∈ b.words ++ ad
      · rw [decide_eq_true hm] at D
        have L := Lib.hid D
        have HE2 := Lib.hid (show (words.take (k + 1)).foldl stepW b.words = b.words ++ ad by rw [HST.out, HE.out]; exact if_pos hm)
        clear D hm
        go_wp2_with (go_at_call 50; go_loud (refine L.out.mono ?_; rintro e w' ⟨rfl, rfl⟩))
        go_roundw
        case rel => exact ⟨k + 1, p, _, _, ad, rfl, rfl, hlt, by omega, by go_num, HL, HE2, HS, HO1, HO2, HB⟩
        case measure => exact meas hlt
      · rw [decide_eq_false hm] at D
        have L := Lib.hid D
        have HE2 := Lib.hid (show (words.take (k + 1)).foldl stepW b.words = b.words ++ (ad ++ [x]) by rw [HST.out, HE.out, ← List.append_assoc]; exact if_neg hm)
        have HL2 := Lib.hid (show (ad ++ [x]).length = p + 1 by rw [List.length_append, HL.out]; rfl)
        have HS2 := Lib.hid (show ∀ y ∈ ad ++ [x], y.size ≤ 140737488355328 from fun y hy => by
          rcases List.mem_append.1 hy with hy | hy
          · exact HS.out y hy
          · obtain rfl := List.mem_singleton.1 hy; exact HXZ.out)
        have hsz := HB.out.size
        clear D hm
        go_upto_region 7 with (go_at_call 50; go_loud (refine L.out.mono ?_; rintro e w' ⟨rfl, rfl⟩))
        go_upto_region 8 with (at_builtin; go_loud (
           refine wpList_rows elS rfl _ _ rfl rfl rfl (HO1.out.alloc (.cells #[.string x] 9)) (src_new wr #[.string x] 9 (m := 1) (sz := 1) rfl rfl (fun u hu => by simp at hu; subst hu; rfl)) (by unfold maxLen; omega) (by omega) (by simp; omega) ?_
           intro v6 w6 hown hg _
           have HO6 := Lib.hid (show w6.ownsRow w.heap.size 9 1 v6 (wn + (p + 1)) ((b.words ++ (ad ++ [x])).map Value.string) by rw [← List.append_assoc, List.map_append]; exact hown)
           have HR6 := Lib.hid ((HO2.out.alloc (.cells #[.string x] 9)).kept hg (own_apart (HO2.out.alloc (.cells #[.string x] 9)) (HO1.out.alloc (.cells #[.string x] 9)) (by decide)))
           have HB6 := Lib.hid ((HB.out.alloc HB.out.size (.cells #[.string x] 9)).grown hg (by simp; omega) (fun g e => (HO1.out.lt g e).1))
           clear hown hg))
        have hsz6 := HB6.out.size
        go_wp2_with (at_builtin; go_loud (
           refine wpList_rows elR rfl _ _ rfl rfl rfl (HR6.out.alloc (.cells (cell11 (wRaw x)).toArray 51)) (src_row w6 (wRaw x)) (by unfold maxLen; omega) (by omega) (by simp; omega) ?_
           intro v7 w7 hown hg _
           have HR7 := Lib.hid (show w7.ownsRow w.heap.size 51 11 v7 (p + 1) (rc ((ad ++ [x]).map wRaw)) by rw [List.map_append]; rw [show [x].map wRaw = [wRaw x] from rfl, rc_snoc]; exact hown)
           have HO7 := Lib.hid ((HO6.out.alloc (.cells (cell11 (wRaw x)).toArray 51)).kept hg (own_apart (HO6.out.alloc (.cells (cell11 (wRaw x)).toArray 51)) (HR6.out.alloc (.cells (cell11 (wRaw x)).toArray 51)) (by decide)))
           have HB7 := Lib.hid ((HB6.out.alloc HB6.out.size (.cells (cell11 (wRaw x)).toArray 51)).grown hg (by simp; omega) (fun g e => (HR6.out.lt g e).1))
           clear hown hg))
        go_roundw
        case rel => exact ⟨k + 1, p + 1, _, _, ad ++ [x], rfl, rfl, hlt, by omega, by go_num, HL2, HE2, HS2, HO7, HR7, HB7⟩
        case measure => exact meas hlt
    · obtain rfl : k = n := by omega
      have had : ad = newW b.words words := by
        have h := HE.out
        rw [List.take_of_length_le (by rw [HZ.out.len]; exact Nat.le_refl _), fold_new HD.out (fun _ _ => Iff.rfl)] at h
        exact (List.append_cancel_left h).symm
      have HAD := Lib.hid had
      clear had
      obtain ⟨A1, c1, rfl, hc1⟩ := own_slice HO1.out
      obtain ⟨A2, c2, rfl, hc2⟩ := own_slice HO2.out
      have HSA := Lib.hid (strsAt_own HO1.out (by omega) (fun y hy => by
        rcases List.mem_append.1 hy with hy | hy
        · exact HXS.out y hy
        · exact HS.out y hy))
      have HP := Lib.hid (show WiPost b.words words w (.returned (.tuple #[.slice A1 (wn + p) c1, .slice A2 p c2])) wr by
        have h1 := HSA.out
        have h2 := HO2.out
        have h3 := HL.out
        rw [HAD.out] at h1 h2 h3
        refine ⟨A1, wn + p, c1, A2, p, c2, rfl, hc1, hc2, ?_, h3.symm, h1, h2, HB.out⟩
        have := h1.len
        exact this.symm)
      go_wp2_with fail
      refine bodyPost_ret (v := .tuple #[.slice A1 (wn + p) c1, .slice A2 p c2]) (by rw [results_tmp2 (t := 4) (u := 5) rfl]; rfl) rfl ?_
      exact HP.out
end Go.Proofs.YtnicijeeocknaaaDoor.RmC
