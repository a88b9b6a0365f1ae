/-
  RwF2 + RwW16 + RwW17
-/
import Derived.Test.YtnicijeeocknaaaDoorJ7
import Derived.Test.YtnicijeeocknaaaDoorRwW15
import Derived.Test.YtnicijeeocknaaaDoorN5
import Derived.Test.YtnicijeeocknaaaDoorJ3
import Derived.Deep.DeepCutAuto
import Derived.Deep.RegionHeld3
set_option linter.unusedVariables false
set_option linter.unusedSimpArgs false
namespace Go.Proofs.YtnicijeeocknaaaDoor.RwF2
open Go.RowKit Go.Proofs.YtnicijeeocknaaaDoor.BxD Go.Proofs.YtnicijeeocknaaaDoor.BxOp Go.Proofs.YtnicijeeocknaaaDoor.RwD Go.Proofs.YtnicijeeocknaaaDoor.RwM Go.Proofs.YtnicijeeocknaaaDoor.RwF

theorem rise_ext : ∀ {a b : List Int}, a.Pairwise (· < ·) → b.Pairwise (· < ·) → (∀ x, x ∈ a ↔ x ∈ b) → a = b
  | [], [], _, _, _ => rfl
  | [], y :: b, _, _, h => by have := (h y).2 (by simp); simp at this
  | x :: a, [], _, _, h => by have := (h x).1 (by simp); simp at this
  | x :: a, y :: b, ha, hb, h => by
    rw [List.pairwise_cons] at ha hb
    have hxy : x = y := by
      have h1 := (h x).1 (by simp)
      have h2 := (h y).2 (by simp)
      rcases List.mem_cons.1 h1 with e | e
      · exact e
      · rcases List.mem_cons.1 h2 with e2 | e2
        · exact e2.symm
        · have := ha.1 y e2; have := hb.1 x e; omega
    subst hxy
    congr 1
    refine rise_ext ha.2 hb.2 fun z => ⟨fun hz => ?_, fun hz => ?_⟩
    · rcases List.mem_cons.1 ((h z).1 (List.mem_cons_of_mem _ hz)) with e | e
      · have := ha.1 z hz; omega
      · exact e
    · rcases List.mem_cons.1 ((h z).2 (List.mem_cons_of_mem _ hz)) with e | e
      · have := hb.1 z hz; omega
      · exact e
theorem own_mem {ws : List ByteArray} {ks : List Int} {x : ByteArray} : x ∈ wordsOf ws ks ↔ ∃ k ∈ ks, 0 ≤ k ∧ ws[k.toNat]? = some x := by
  unfold wordsOf word1
  rw [List.mem_flatMap]
  constructor
  · rintro ⟨k, hk, hx⟩
    by_cases h0 : 0 ≤ k
    · rw [if_pos h0] at hx
      exact ⟨k, hk, h0, by simpa using hx⟩
    · rw [if_neg h0] at hx; simp at hx
  · rintro ⟨k, hk, h0, hx⟩
    exact ⟨k, hk, by rw [if_pos h0]; simpa using hx⟩
theorem own_sub {ws : List ByteArray} {ks : List Int} {x : ByteArray} (h : x ∈ wordsOf ws ks) : x ∈ ws := by
  obtain ⟨k, _, _, hx⟩ := own_mem.1 h
  exact List.mem_of_getElem? hx
theorem getD_of {l : List ByteArray} {i : Nat} (h : i < l.length) : l.getD i emT = l[i] := by rw [List.getD_eq_getElem?_getD, List.getElem?_eq_getElem h]; rfl
/-- A place's word is among the own ones just if the place is among the keys. -/
theorem own_at {ws : List ByteArray} {ks : List Int} (hn : ws.Nodup) (hk : ∀ k ∈ ks, 0 ≤ k ∧ k < (ws.length : Int)) {i : Nat} (hi : i < ws.length) : ws.getD i emT ∈ wordsOf ws ks ↔ (i : Int) ∈ ks := by
  rw [getD_of hi, own_mem]
  constructor
  · rintro ⟨k, hm, h0, hx⟩
    have hl : k.toNat < ws.length := by have := (hk k hm).2; omega
    rw [List.getElem?_eq_getElem hl] at hx
    have : k.toNat = i := (List.getElem_inj hn).1 (Option.some.inj hx)
    have e : (i : Int) = k := by omega
    rw [e]; exact hm
  · intro hm
    exact ⟨(i : Int), hm, by omega, by rw [Int.toNat_natCast]; exact List.getElem?_eq_getElem hi⟩
/-- The words that the program gives the message. -/
def wds (ws : List ByteArray) (ks : List Int) (words : List ByteArray) (how : Int) : List ByteArray := if how = 1 then wordsOf ws ks ++ words else if how = 2 then newW words (wordsOf ws ks) else words
section
variable {ws : List ByteArray} {ks : List Int} {words : List ByteArray} {how : Int}
theorem new_wds : newW ws (wds ws ks words how) = if how = 2 then [] else newW ws words := by
  unfold wds
  by_cases h1 : how = 1
  · rw [if_pos h1, if_neg (by omega)]
    have e : newW ws (wordsOf ws ks ++ words) = newW ws (wordsOf ws ks) ++ newW ws words := by unfold newW; rw [List.filter_append]
    rw [e, newW_nil (fun w hw => own_sub hw), List.nil_append]
  · rw [if_neg h1]
    by_cases h2 : how = 2
    · rw [if_pos h2, if_pos h2]
      exact newW_nil fun w hw => own_sub ((newW_sub _ _).subset hw)
    · rw [if_neg h2, if_neg h2]
theorem keys_wds {b : Box} {m : Msg} (hn : b.words.Nodup) (hk : keysB m.keys b.words.length = true) : kW (b.words ++ newW b.words (wds b.words m.keys words how)) (wds b.words m.keys words how) = flKeys b m words how := by
  obtain ⟨hkb, hkr⟩ := (keysB_iff _ _).1 hk
  rw [new_wds]
  unfold wds flKeys
  by_cases h1 : how = 1
  · rw [if_pos h1, if_pos h1, if_neg (by omega)]
    show kW (allW b.words words) _ = _
    unfold kW moreK
    refine idx_congr fun i hi => ?_
    rw [Bool.eq_iff_iff, decide_eq_true_iff, Bool.or_eq_true, decide_eq_true_iff, decide_eq_true_iff, List.mem_append]
    by_cases hl : i < b.words.length
    · have e : (allW b.words words).getD i emT = b.words.getD i emT := by
        unfold allW
        rw [List.getD_eq_getElem?_getD, List.getD_eq_getElem?_getD, List.getElem?_append_left hl]
      rw [e, own_at hn hkb hl]
      exact Or.comm
    · have hw : (allW b.words words).getD i emT ∈ words := by
        have hi2 : i < (b.words ++ newW b.words words).length := hi
        show (b.words ++ newW b.words words).getD i emT ∈ words
        rw [getD_of hi2, List.getElem_append_right (by omega)]
        exact (newW_sub _ _).subset (List.getElem_mem _)
      exact ⟨fun _ => .inl hw, fun _ => .inr hw⟩
  · rw [if_neg h1, if_neg h1]
    by_cases h2 : how = 2
    · rw [if_pos h2, if_pos h2, if_pos h2, List.append_nil]
      unfold lessK
      refine rise_ext (idx_rise _ _) (hkr.sublist List.filter_sublist) fun x => ?_
      unfold kW
      rw [idx_mem, List.mem_filter]
      constructor
      · rintro ⟨i, hi, hp, rfl⟩
        rw [decide_eq_true_iff] at hp
        unfold newW at hp
        rw [List.mem_filter, own_at hn hkb hi] at hp
        exact ⟨hp.1, by rw [Int.toNat_natCast]; exact hp.2⟩
      · rintro ⟨hx, hp⟩
        have h0 := hkb x hx
        refine ⟨x.toNat, by omega, ?_, by omega⟩
        rw [decide_eq_true_iff]
        unfold newW
        rw [List.mem_filter, own_at hn hkb (by omega)]
        exact ⟨by rw [show ((x.toNat : Nat) : Int) = x by omega]; exact hx, hp⟩
    · rw [if_neg h2, if_neg h2, if_neg h2]
      rfl
/-- A message that has a new word has not just that already. -/
theorem same_none {b : Box} {m : Msg} (hn : b.words.Nodup) (hk : keysB m.keys b.words.length = true) (h : flKeys b m words how = m.keys) : newW b.words (wds b.words m.keys words how) = [] := by
  rw [← keys_wds hn hk] at h
  cases hne : newW b.words (wds b.words m.keys words how) with
  | nil => rfl
  | cons x r =>
    exfalso
    obtain ⟨hkb, _⟩ := (keysB_iff _ _).1 hk
    have hm : ((b.words.length : Nat) : Int) ∈ kW (b.words ++ newW b.words (wds b.words m.keys words how)) (wds b.words m.keys words how) := by
      unfold kW
      rw [idx_mem]
      refine ⟨b.words.length, by rw [hne]; simp, ?_, rfl⟩
      rw [decide_eq_true_iff, List.getD_eq_getElem?_getD, List.getElem?_append_right (Nat.le_refl _), hne]
      simp only [Nat.sub_self, List.getElem?_cons_zero, Option.getD_some]
      exact (newW_sub b.words _).subset (by rw [hne]; simp)
    rw [h] at hm
    have := (hkb _ hm).2
    omega
end
end Go.Proofs.YtnicijeeocknaaaDoor.RwF2

namespace Go.Proofs.YtnicijeeocknaaaDoor.RwW16
open Go.RowKit Go.Proofs.YtnicijeeocknaaaDoor.BxD Go.Proofs.YtnicijeeocknaaaDoor.BxKit Go.Proofs.YtnicijeeocknaaaDoor.BxA Go.Proofs.YtnicijeeocknaaaDoor.BxR Go.Proofs.YtnicijeeocknaaaDoor.BxC Go.Proofs.YtnicijeeocknaaaDoor.BxV Go.Proofs.YtnicijeeocknaaaDoor.RwD Go.Proofs.YtnicijeeocknaaaDoor.RwM Go.Proofs.YtnicijeeocknaaaDoor.RwF Go.Proofs.YtnicijeeocknaaaDoor.RwF2 Go.Proofs.YtnicijeeocknaaaDoor.RwKit Go.Proofs.YtnicijeeocknaaaDoor.RwOwn Go.Proofs.YtnicijeeocknaaaDoor.RwMb Go.Proofs.YtnicijeeocknaaaDoor.RwW13 Go.Proofs.YtnicijeeocknaaaDoor.RwW14 Go.Proofs.YtnicijeeocknaaaDoor.RwW15

theorem own_le (ws : List ByteArray) : ∀ ks : List Int, (wordsOf ws ks).length ≤ ks.length
  | [] => Nat.le_refl _
  | k :: r => by
    have ih := own_le ws r
    unfold wordsOf at ih ⊢
    rw [List.flatMap_cons, List.length_append, List.length_cons]
    have : (word1 ws k).length ≤ 1 := by
      unfold word1
      split
      · cases ws[k.toNat]? <;> simp
      · simp
    omega
/-- What shall answers. -/
def ShP (fl' : Int) (l : List ByteArray) (w : World) (e : Ending) (w' : World) : Prop :=
  ∃ A n c, e = .returned (.tuple #[.int .i64 fl', .slice A n c]) ∧ n ≤ c ∧ StrsAt w' w'.heap.size A n l ∧ Below w.heap.size w w'
set_option maxHeartbeats 4000000 in
set_option maxRecDepth 100000 in
theorem shall_any {bid id tx : ByteArray} {bv bn bh u md d fl flags how : Int} {WA MA K A : Option Addr} {wn wc mn mcp kn kc n cp B : Nat} {ws words : List ByteArray} {ks : List Int} {w : World} (hx : StrsAt w B WA wn ws) (hk : IntsAt w B K kn ks) (hz : StrsAt w B A n words) (hB : B ≤ w.heap.size) (h6 : kn ≤ 60000) (hn : n ≤ 100000) (hc : n ≤ cp) (hh : 0 ≤ how ∧ how ≤ 2) :
    Calls Tryd.prog 31 #[.agg #[.string bid, .int .i64 bv, .int .i64 bn, .int .i64 bh, .slice WA wn wc, .slice MA mn mcp], .agg #[.int .i64 u, .int .i64 md, .int .i64 d, .string id, .int .i64 fl, .slice K kn kc, .string tx], .int .i64 flags, .slice A n cp, .int .i64 how] w
      (ShP (if how = 1 then orI fl flags else if how = 2 then notI fl flags else flags) (wds ws ks words how) w) := by
  have B0 := Lib.hid (((Below.refl w.heap.size w).alloc (Nat.le_refl _) (.cells #[.string bid, .int .i64 bv, .int .i64 bn, .int .i64 bh, .slice WA wn wc, .slice MA mn mcp] 25)).alloc (by simp) (.cells #[.int .i64 u, .int .i64 md, .int .i64 d, .string id, .int .i64 fl, .slice K kn kc, .string tx] 28))
  have C0 := Lib.hid ((heap_alloc_old (w.alloc (.cells #[.string bid, .int .i64 bv, .int .i64 bn, .int .i64 bh, .slice WA wn wc, .slice MA mn mcp] 25)) (.cells #[.int .i64 u, .int .i64 md, .int .i64 d, .string id, .int .i64 fl, .slice K kn kc, .string tx] 28) (show w.heap.size < _ by simp)).trans (heap_alloc_new w _))
  have D0 := Lib.hid (heap_alloc_new (w.alloc (.cells #[.string bid, .int .i64 bv, .int .i64 bn, .int .i64 bh, .slice WA wn wc, .slice MA mn mcp] 25)) (.cells #[.int .i64 u, .int .i64 md, .int .i64 d, .string id, .int .i64 fl, .slice K kn kc, .string tx] 28))
  rw [show (w.alloc (.cells #[.string bid, .int .i64 bv, .int .i64 bn, .int .i64 bh, .slice WA wn wc, .slice MA mn mcp] 25)).heap.size = w.heap.size + 1 by simp] at D0
  have HX := Lib.hid hx
  have HK := Lib.hid hk
  have HZ := Lib.hid hz
  clear hx hk hz
  obtain ⟨R, hR⟩ : ∃ R, R = wds ws ks words how := ⟨_, rfl⟩
  rw [← hR]
  have HR := Lib.hid hR
  clear hR
  obtain ⟨F, hF⟩ : ∃ F, F = (if how = 1 then orI fl flags else if how = 2 then notI fl flags else flags) := ⟨_, rfl⟩
  rw [← hF]
  have HF := Lib.hid hF
  clear hF
  go_enter Tryd.func31, Tryd.ntmps31
  go_upto_region 1 with fail
  generalize (World.alloc (World.alloc w _) _) = w1 at B0 C0 D0 ⊢
  have hs1 : w.heap.size + 1 < w1.heap.size := (Array.getElem?_eq_some_iff.1 D0.out).1
  have KW := Lib.hid (words_any (bid := bid) (bv := bv) (bn := bn) (bh := bh) (MA := MA) (mn := mn) (mc := mcp) (u := u) (md := md) (d := d) (id := id) (fl := fl) (tx := tx) (wc := wc) (kc := kc) (StrsAt.below HX.out B0.out hB) (IntsAt.below HK.out B0.out hB) (by omega) (by omega) h6)
  have c := fun o => cell_of_row w1 w.heap.size o _ _ _ C0.out
  have c0 := (c 0).trans (show _ = some (Value.string bid) from rfl)
  have c1 := (c 1).trans (show _ = some (Value.int .i64 bv) from rfl)
  have c2 := (c 2).trans (show _ = some (Value.int .i64 bn) from rfl)
  have c3 := (c 3).trans (show _ = some (Value.int .i64 bh) from rfl)
  have c4 := (c 4).trans (show _ = some (Value.slice WA wn wc) from rfl)
  have c5 := (c 5).trans (show _ = some (Value.slice MA mn mcp) from rfl)
  obtain ⟨m0, m1, m2, m3, m4, m5, m6⟩ := seven_at D0.out
  clear c
  go_upto_region 2 with (go_at_call 54; go_loud (
     refine KW.out.mono ?_
     rintro e w2 ⟨A1, n1, k1, rfl, hk1, hx1, hb1⟩
     have B2 := Lib.hid (B0.out.trans (hb1.mono B0.out.size))
     have D2 := Lib.hid ((hb1.block _ hs1).trans D0.out)
     have X2 := Lib.hid hx1
     have hn1 : n1 ≤ 60000 := by have h1 := hx1.len; have h2 := own_le ws ks; have h3 := HK.out.len; omega
     have hs2 := hb1.size
     clear hb1 hx1 c0 c1 c2 c3 c4 c5 m0 m1 m2 m3 m4 m5 m6))
  clear KW C0 D0 B0
  obtain ⟨m0, m1, m2, m3, m4, m5, m6⟩ := seven_at D2.out
  clear m0 m1 m2 m3 m5 m6
  by_cases h1 : how = 1
  · subst h1
    have HW := Lib.hid (show R = wordsOf ws ks ++ words from by rw [HR.out]; unfold wds; rw [if_pos rfl])
    obtain ⟨L, hL⟩ : ∃ L, L = (wordsOf ws ks ++ words).length := ⟨_, rfl⟩
    have HL := Lib.hid hL
    have hLl : L ≤ 200000 := by rw [hL, List.length_append]; have q1 := X2.out.len; have q2 := HZ.out.len; omega
    clear hL
    obtain ⟨o, ho⟩ : ∃ o, bits .or .i64 fl flags = o := ⟨_, rfl⟩
    have HO := Lib.hid (show F = o from by rw [HF.out, if_pos rfl]; exact ho)
    go_upto_region 4 with fail
    have k0 := cell_new w2 #[.slice A1 n1 k1, .slice A n cp] 22 0
    have k1' := cell_new w2 #[.slice A1 n1 k1, .slice A n cp] 22 1
    rw [add_new] at k0 k1'
    have hsz : (w2.alloc (.cells #[.slice A1 n1 k1, .slice A n cp] 22)).heap.size = w2.heap.size + 1 := by simp
    have ba := (Below.refl w2.heap.size w2).alloc (Nat.le_refl _) (.cells #[.slice A1 n1 k1, .slice A n cp] 22)
    have KC := Lib.hid (concat_any (c1 := k1) (c2 := cp) (g := w2.heap.size) (StrsAt.below X2.out ba (Nat.le_refl _)) (StrsAt.below (StrsAt.below HZ.out B2.out hB) ba (by omega)) (by omega) (by omega) (by omega) k0 k1' (by omega))
    have KCd := Lib.hid (show Calls Tryd.prog 19 #[.slice (some ⟨w2.heap.size, 0, none⟩) 2 2] (w2.alloc (.cells #[.slice A1 n1 k1, .slice A n cp] 22)).drew (OwS (wordsOf ws ks ++ words) (w2.alloc (.cells #[.slice A1 n1 k1, .slice A n cp] 22)).drew) from concat_any (c1 := k1) (c2 := cp) (g := w2.heap.size) (StrsAt.below X2.out ba.drew (Nat.le_refl _)) (StrsAt.below (StrsAt.below HZ.out B2.out hB) ba.drew (by omega)) (by show _ ≤ (w2.alloc _).heap.size; omega) (by show _ ≤ (w2.alloc _).heap.size; omega) (by omega) k0 k1' (by show _ < (w2.alloc _).heap.size; omega))
    have ma := (ba.cell (p := { block := w.heap.size + 1, off := 4 }) (by show w.heap.size + 1 < _; omega)).trans m4
    have BA := Lib.hid ba
    clear k0 k1' ba hsz
    go_region_held3 (fun wr => wr.cell? { block := w.heap.size + 1, off := 4 } = some (.int .i64 fl)) (with_reducible first | exact m4 | exact ma | exact x4 | go_keep) (first
      | (go_at_call 19
         go_loud (
         with_reducible first | refine KC.out.mono ?_ | refine KCd.out.mono ?_
         rintro e w3 ⟨A3, k3, rfl, ho3, hb3⟩
         rw [← HL.out] at ho3 ⊢
         have B3 := Lib.hid (show Below w2.heap.size w2 w3 by first | exact BA.out.trans (hb3.mono (by simp)) | exact BA.out.drew.trans (hb3.mono (by show _ ≤ (w2.alloc _).heap.size; simp)))
         have O3 := Lib.hid ho3
         have x4 := (B3.out.cell (p := { block := w.heap.size + 1, off := 4 }) (by show w.heap.size + 1 < _; omega)).trans m4
         clear hb3 ho3
         dsimp only)))
    all_goals
      go_wp2_with fail
      go_ret2
      rw [HO.out, HW.out]
      obtain ⟨_, _, ev, hk3⟩ := own_slice O3.out
      injection ev with _ _ ev3
      subst ev3
      exact ⟨A3, _, _, rfl, hk3, strsAt_own O3.out (by omega) (fun x hx => by
        rcases List.mem_append.1 hx with hx | hx
        · exact strs_size HX.out x (own_sub hx)
        · exact strs_size HZ.out x hx), B2.out.trans (B3.out.mono B2.out.size)⟩
  · by_cases h2 : how = 2
    · subst h2
      have HW := Lib.hid (show R = newW words (wordsOf ws ks) from by rw [HR.out]; unfold wds; rw [if_neg (by decide), if_pos rfl])
      obtain ⟨L, hL⟩ : ∃ L, L = (newW words (wordsOf ws ks)).length := ⟨_, rfl⟩
      have HL := Lib.hid hL
      have hLl : L ≤ 200000 := by rw [hL]; have q1 := X2.out.len; have q2 := (newW_sub words (wordsOf ws ks)).length_le; omega
      clear hL
      obtain ⟨o, ho⟩ : ∃ o, bits .andNot .i64 fl flags = o := ⟨_, rfl⟩
      have HO := Lib.hid (show F = o from by rw [HF.out, if_neg (by decide), if_pos rfl]; exact ho)
      have KC := Lib.hid (fun (wr : World) (hb : Below w2.heap.size w2 wr) => without_any (cp := k1) (oc := cp) (StrsAt.below X2.out hb (Nat.le_refl _)) (StrsAt.below (StrsAt.below HZ.out B2.out hB) hb (by omega)) hb.size (by have := hb.size; omega) (by omega))
      go_upto_region 6 with fail
      go_region_held3 (fun wr => wr.cell? { block := w.heap.size + 1, off := 4 } = some (.int .i64 fl)) (with_reducible first | exact m4 | exact x4 | go_keep) (first
        | (go_at_call 17
           ((with_reducible refine (KC.out _ ?d1).mono ?_); rotate_left)
           case d1 => with_reducible first | exact (Below.refl _ _).drew | exact Below.refl _ _
           go_loud (
           rintro e w3 ⟨A3, k3, rfl, ho3, hb3⟩
           rw [← HL.out] at ho3 ⊢
           have B3 := Lib.hid (show Below w2.heap.size w2 w3 by first | exact hb3 | exact (Below.refl _ _).drew.trans hb3)
           have O3 := Lib.hid ho3
           have x4 := (B3.out.cell (p := { block := w.heap.size + 1, off := 4 }) (by show w.heap.size + 1 < _; omega)).trans m4
           clear hb3 ho3
           dsimp only)))
      all_goals
        go_wp2_with fail
        go_ret2
        rw [HO.out, HW.out]
        obtain ⟨_, _, ev, hk3⟩ := own_slice O3.out
        injection ev with _ _ ev3
        subst ev3
        exact ⟨A3, _, _, rfl, hk3, strsAt_own O3.out (by omega) (fun x hx => strs_size HX.out x (own_sub ((newW_sub _ _).subset hx))), B2.out.trans (B3.out.mono B2.out.size)⟩
    · obtain rfl : how = 0 := by omega
      have HW := Lib.hid (show R = words from by rw [HR.out]; unfold wds; rw [if_neg (by decide), if_neg (by decide)])
      have HO := Lib.hid (show F = flags from by rw [HF.out, if_neg (by decide), if_neg (by decide)])
      go_wp2_with fail
      go_ret2
      rw [HO.out, HW.out]
      exact ⟨A, n, cp, rfl, hc, StrsAt.more (StrsAt.below HZ.out B2.out hB) (by omega), B2.out⟩
end Go.Proofs.YtnicijeeocknaaaDoor.RwW16

namespace Go.Proofs.YtnicijeeocknaaaDoor.RwW17
open Go.RowKit Go.Proofs.YtnicijeeocknaaaDoor.BxD Go.Proofs.YtnicijeeocknaaaDoor.BxKit Go.Proofs.YtnicijeeocknaaaDoor.BxA Go.Proofs.YtnicijeeocknaaaDoor.BxB Go.Proofs.YtnicijeeocknaaaDoor.BxM Go.Proofs.YtnicijeeocknaaaDoor.BxO Go.Proofs.YtnicijeeocknaaaDoor.BxR Go.Proofs.YtnicijeeocknaaaDoor.BxC Go.Proofs.YtnicijeeocknaaaDoor.BxV Go.Proofs.YtnicijeeocknaaaDoor.BxF Go.Proofs.YtnicijeeocknaaaDoor.RwD Go.Proofs.YtnicijeeocknaaaDoor.RwM Go.Proofs.YtnicijeeocknaaaDoor.RwF Go.Proofs.YtnicijeeocknaaaDoor.RwF2 Go.Proofs.YtnicijeeocknaaaDoor.RwKit Go.Proofs.YtnicijeeocknaaaDoor.RwOwn Go.Proofs.YtnicijeeocknaaaDoor.RwMb Go.Proofs.YtnicijeeocknaaaDoor.RwMc Go.Proofs.YtnicijeeocknaaaDoor.RwRo Go.Proofs.YtnicijeeocknaaaDoor.RwW13 Go.Proofs.YtnicijeeocknaaaDoor.RwW14 Go.Proofs.YtnicijeeocknaaaDoor.RwW15 Go.Proofs.YtnicijeeocknaaaDoor.RwW16

def flP (b : Box) (u flags : Int) (words : List ByteArray) (how : Int) : List Row := if flE b u flags words how = 0 then flL b u flags words how else []
def flOk (flags : Int) (words : List ByteArray) (how : Int) : Prop := (0 ≤ flags ∧ flags ≤ 31) ∧ wordsB words = true ∧ (0 ≤ how ∧ how ≤ 2)
set_option maxHeartbeats 4000000 in
set_option maxRecDepth 100000 in
theorem flags_bad {w : World} {b : Box} {u flags how : Int} {words : List ByteArray} {WA MA A : Option Addr} {wn wc mn mcp n cp B : Nat} (ht : RwW15.Tab w) (hx : StrsAt w B WA wn b.words) (hm : MsgsAt w B MA mn b.msgs) (hwc : wn ≤ wc) (hmc : mn ≤ mcp) (hB : B ≤ w.heap.size) (hz : StrsAt w B A n words) (hn : n ≤ cp) (hl : n ≤ 8796093022208) {E0 : Int} (h0 : mbE b = E0) (he : E0 ≠ 0) : Calls Tryd.prog 9 #[.agg #[.string b.id, .int .i64 b.valid, .int .i64 b.next, .int .i64 b.high, .slice WA wn wc, .slice MA mn mcp], .int .i64 u, .int .i64 flags, .slice A n cp, .int .i64 how] w (RowsOut [] 1 w) := by
  have f0 := FR.start w b (.slice WA wn wc) (.slice MA mn mcp)
  have F0 := Lib.hid f0
  have HX := Lib.hid hx
  have HM := Lib.hid hm
  have HZ := Lib.hid hz
  have HT := Lib.hid ht
  have H0 := Lib.hid h0
  have hxm := hx.max
  clear hx hm hz ht h0 f0
  go_enter Tryd.func9, Tryd.ntmps9
  go_upto_region 1 with fail
  generalize (World.alloc w _) = w1 at F0 ⊢
  have hs1 := F0.out.lt
  have km := may_box (bid := b.id) (bv := b.valid) (bn := b.next) (bh := b.high) (mc := mcp) (StrsAt.below HX.out F0.out.bel hB) (MsgsAt.below HM.out F0.out.bel hB) (show B ≤ w1.heap.size by omega) hwc
  rw [show mbE ⟨b.id, b.valid, b.next, b.high, b.words, b.msgs⟩ = E0 from H0.out] at km
  have KM := Lib.hid km
  clear km
  obtain ⟨c0, c1, c2, c3, c4, c5⟩ := F0.out.facts
  have he2 : (E0 == 0) = false := by simpa using he
  have he3 : (E0 != 0) = true := by simpa using he
  go_wp2_with (go_at_call 15; go_loud (
               refine KM.out.mono ?_
               rintro e w2 ⟨rfl, hb2⟩
               have F2 := Lib.hid (F0.out.go hb2)
               clear hb2))
  go_ret2
  exact rowsOut_none 1 F2.out.bel
set_option maxHeartbeats 4000000 in
set_option maxRecDepth 100000 in
theorem flags_arg {w : World} {b : Box} {u flags how : Int} {words : List ByteArray} {WA MA A : Option Addr} {wn wc mn mcp n cp B : Nat} (ht : RwW15.Tab w) (hx : StrsAt w B WA wn b.words) (hm : MsgsAt w B MA mn b.msgs) (hwc : wn ≤ wc) (hmc : mn ≤ mcp) (hB : B ≤ w.heap.size) (hz : StrsAt w B A n words) (hn : n ≤ cp) (hl : n ≤ 8796093022208) {E0 : Int} (h0 : mbE b = E0) (he : E0 = 0) (hok : ¬ flOk flags words how) : Calls Tryd.prog 9 #[.agg #[.string b.id, .int .i64 b.valid, .int .i64 b.next, .int .i64 b.high, .slice WA wn wc, .slice MA mn mcp], .int .i64 u, .int .i64 flags, .slice A n cp, .int .i64 how] w (RowsOut [] 1 w) := by
  unfold flOk at hok
  have f0 := FR.start w b (.slice WA wn wc) (.slice MA mn mcp)
  have F0 := Lib.hid f0
  have HX := Lib.hid hx
  have HM := Lib.hid hm
  have HZ := Lib.hid hz
  have HT := Lib.hid ht
  have H0 := Lib.hid h0
  have hxm := hx.max
  clear hx hm hz ht h0 f0
  have hwo : wordsB words = true ∨ wordsB words = false := by cases wordsB words; exact .inr rfl; exact .inl rfl
  go_enter Tryd.func9, Tryd.ntmps9
  go_upto_region 1 with fail
  generalize (World.alloc w _) = w1 at F0 ⊢
  have hs1 := F0.out.lt
  have km := may_box (bid := b.id) (bv := b.valid) (bn := b.next) (bh := b.high) (mc := mcp) (StrsAt.below HX.out F0.out.bel hB) (MsgsAt.below HM.out F0.out.bel hB) (show B ≤ w1.heap.size by omega) hwc
  rw [show mbE ⟨b.id, b.valid, b.next, b.high, b.words, b.msgs⟩ = E0 from H0.out] at km
  have KM := Lib.hid km
  clear km
  obtain ⟨c0, c1, c2, c3, c4, c5⟩ := F0.out.facts
  subst he
  by_cases g1 : flags < 0
  · have hwb : Hid (wordsB words = wordsB words) := Lib.hid rfl
    go_wp2_with (go_at_call 15; go_loud (
               refine KM.out.mono ?_
               rintro e w2 ⟨rfl, hb2⟩
               have F2 := Lib.hid (F0.out.go hb2)
               clear hb2))
    go_ret2
    exact rowsOut_none 1 F2.out.bel
  have g1' : (0 : Int) ≤ flags := by omega
  by_cases g2 : 31 < flags
  · go_wp2_with (go_at_call 15; go_loud (
               refine KM.out.mono ?_
               rintro e w2 ⟨rfl, hb2⟩
               have F2 := Lib.hid (F0.out.go hb2)
               clear hb2))
    go_ret2
    exact rowsOut_none 1 F2.out.bel
  have g2' : flags ≤ (31 : Int) := by omega
  rcases hwo with hw | hw
  · have HWB := Lib.hid hw
    by_cases g3 : how < 0
    · clear hok hw
      go_wp2_with (first
        | (go_at_call 15; go_loud (
       refine KM.out.mono ?_
       rintro e w2 ⟨rfl, hb2⟩
       have F2 := Lib.hid (F0.out.go hb2)
       have hs2 := F2.out.lt
       have kw := mayWords_any (cp := cp) (HT.out.below F2.out.bel (Nat.le_refl _)).2 (StrsAt.below HZ.out F2.out.bel hB) (show B ≤ w2.heap.size by omega) hl
       rw [HWB.out] at kw
       have KW := Lib.hid kw
       clear hb2 kw c0 c1 c2 c3 c4 c5))
        | (go_at_call 16; go_loud (
       refine KW.out.mono ?_
       rintro e w3 ⟨rfl, hb3⟩
       have F3 := Lib.hid (F2.out.go hb3)
       clear hb3)))
      go_ret2
      exact rowsOut_none 1 F3.out.bel
    have g3' : (0 : Int) ≤ how := by omega
    have g4 : (2 : Int) < how := by
      rcases Int.lt_or_le 2 how with h | h
      · exact h
      · exact absurd ⟨⟨g1', g2'⟩, hw, g3', h⟩ hok
    clear hok hw
    go_wp2_with (first
        | (go_at_call 15; go_loud (
       refine KM.out.mono ?_
       rintro e w2 ⟨rfl, hb2⟩
       have F2 := Lib.hid (F0.out.go hb2)
       have hs2 := F2.out.lt
       have kw := mayWords_any (cp := cp) (HT.out.below F2.out.bel (Nat.le_refl _)).2 (StrsAt.below HZ.out F2.out.bel hB) (show B ≤ w2.heap.size by omega) hl
       rw [HWB.out] at kw
       have KW := Lib.hid kw
       clear hb2 kw c0 c1 c2 c3 c4 c5))
        | (go_at_call 16; go_loud (
       refine KW.out.mono ?_
       rintro e w3 ⟨rfl, hb3⟩
       have F3 := Lib.hid (F2.out.go hb3)
       clear hb3)))
    go_ret2
    exact rowsOut_none 1 F3.out.bel
  · have HWB := Lib.hid hw
    clear hok hw
    go_wp2_with (first
      | (go_at_call 15; go_loud (
       refine KM.out.mono ?_
       rintro e w2 ⟨rfl, hb2⟩
       have F2 := Lib.hid (F0.out.go hb2)
       have hs2 := F2.out.lt
       have kw := mayWords_any (cp := cp) (HT.out.below F2.out.bel (Nat.le_refl _)).2 (StrsAt.below HZ.out F2.out.bel hB) (show B ≤ w2.heap.size by omega) hl
       rw [HWB.out] at kw
       have KW := Lib.hid kw
       clear hb2 kw c0 c1 c2 c3 c4 c5))
      | (go_at_call 16; go_loud (
       refine KW.out.mono ?_
       rintro e w3 ⟨rfl, hb3⟩
       have F3 := Lib.hid (F2.out.go hb3)
       clear hb3)))
    go_ret2
    exact rowsOut_none 1 F3.out.bel
theorem eleven_at {w : World} {P : Nat} {c0 c1 c2 c3 c4 c5 c6 c7 c8 c9 c10 : Value} {t : TypeId} (h : w.heap[P]? = some (.cells #[c0, c1, c2, c3, c4, c5, c6, c7, c8, c9, c10] t (0, 0))) :
    w.cell? { block := P, off := 0 } = some c0 ∧ w.cell? { block := P, off := 1 } = some c1 ∧ w.cell? { block := P, off := 2 } = some c2 ∧ w.cell? { block := P, off := 3 } = some c3 ∧ w.cell? { block := P, off := 4 } = some c4 ∧ w.cell? { block := P, off := 5 } = some c5 ∧ w.cell? { block := P, off := 6 } = some c6 ∧ w.cell? { block := P, off := 7 } = some c7 ∧ w.cell? { block := P, off := 8 } = some c8 ∧ w.cell? { block := P, off := 9 } = some c9 ∧ w.cell? { block := P, off := 10 } = some c10 := by
  have c := fun o => cell_of_row w P o _ _ _ h
  exact ⟨(c 0).trans rfl, (c 1).trans rfl, (c 2).trans rfl, (c 3).trans rfl, (c 4).trans rfl, (c 5).trans rfl, (c 6).trans rfl, (c 7).trans rfl, (c 8).trans rfl, (c 9).trans rfl, (c 10).trans rfl⟩
theorem flag_fin {w w13 : World} {hi u F : Int} {fresh : List ByteArray} {keys : List Int} {A9 A13 : Option Addr} {kl k9 k13 fn B2 B3 : Nat} (hkl : kl = keys.length) (hfl : fn = fresh.length) (hws : ∀ x ∈ fresh, x.size ≤ 140737488355328)
    (ho : w13.ownsRow B2 51 11 (.slice A13 (fn + 1) k13) (fn + 1) (rc (fresh.map rawW) ++ [.int .i64 2, .int .i64 u, .int .i64 hi, .int .i64 0, .int .i64 0, .int .i64 0, .string ⟨#[]⟩, .int .i64 F, .slice A9 kl k9, .string ⟨#[]⟩, .string ⟨#[]⟩]))
    (hk : w13.ownsRow B3 3 1 (.slice A9 kl k9) kl (keys.map (Value.int .i64))) (hfn : fn ≤ 200000) (hkl6 : kl ≤ 1000000) (hb : Below w.heap.size w w13) :
    RowsOut (fresh.map wRow ++ [⟨2, u, hi, ⟨0, 0, 0, emT, F, keys, emT⟩, emT⟩]) 0 w (.returned (.tuple #[.slice A13 (fn + 1) k13, .int .i64 0])) w13 := by
  obtain ⟨_, _, e1, hk13⟩ := own_slice ho
  obtain ⟨_, _, e2, hk9⟩ := own_slice hk
  injection e1 with _ _ e1
  injection e2 with _ _ e2
  subst hkl
  refine ⟨A13, fn + 1, k13, rfl, by omega, ?_, hb⟩
  have hcells : rc (fresh.map rawW) ++ [.int .i64 2, .int .i64 u, .int .i64 hi, .int .i64 0, .int .i64 0, .int .i64 0, .string ⟨#[]⟩, .int .i64 F, .slice A9 keys.length k9, .string ⟨#[]⟩, .string ⟨#[]⟩] = rc (fresh.map rawW ++ [⟨⟨2, u, hi, ⟨0, 0, 0, emT, F, keys, emT⟩, emT⟩, A9, k9⟩]) := by rw [rc_snoc]; rfl
  rw [hcells] at ho
  have hmap : (fresh.map rawW ++ [(⟨⟨2, u, hi, ⟨0, 0, 0, emT, F, keys, emT⟩, emT⟩, A9, k9⟩ : RRaw)]).map RRaw.r = fresh.map wRow ++ [⟨2, u, hi, ⟨0, 0, 0, emT, F, keys, emT⟩, emT⟩] := by
    rw [List.map_append, List.map_map]
    rfl
  rw [← hmap]
  refine rowsAt_own ho (fun g e => (ho.lt g e).2) (by omega) fun q hq => ?_
  rcases List.mem_append.1 hq with hq | hq
  · obtain ⟨x, hx, rfl⟩ := List.mem_map.1 hq
    exact ⟨RowAt.nil _ _ _ _ _, Nat.le_refl _, Nat.zero_le _, Nat.zero_le _, hws x hx⟩
  · obtain rfl := List.mem_singleton.1 hq
    exact ⟨intsAt_ownB hk (fun g e => (hk.lt g e).2) (show keys.length ≤ 140737488355328 by omega), by show keys.length ≤ k9; omega, Nat.zero_le _, Nat.zero_le _, Nat.zero_le _⟩
theorem rowOnes2 (a1 a2 a3 a4 a5 : Int) (s1 : ByteArray) (a6 : Int) (K : Option Addr) (kl kc : Nat) (a0 a7 : Int) (s2 : ByteArray) : ∀ x ∈ [Value.int .i64 a0, .int .i64 a7, .int .i64 a1, .int .i64 a3, .int .i64 a4, .int .i64 a5, .string s1, .int .i64 a6, .slice K kl kc, .string s2, .string ⟨#[]⟩], x.oneCell' = true := by
  intro x hu
  simp only [List.mem_cons, List.not_mem_nil, or_false] at hu
  rcases hu with rfl | rfl | rfl | rfl | rfl | rfl | rfl | rfl | rfl | rfl | rfl <;> rfl
set_option maxHeartbeats 16000000 in
set_option maxRecDepth 100000 in
theorem flags_go {w : World} {b : Box} {u flags how : Int} {words : List ByteArray} {WA MA A : Option Addr} {wn wc mn mcp n cp B : Nat} (ht : RwW15.Tab w) (hx : StrsAt w B WA wn b.words) (hm : MsgsAt w B MA mn b.msgs) (hwc : wn ≤ wc) (hmc : mn ≤ mcp) (hB : B ≤ w.heap.size) (hz : StrsAt w B A n words) (hn : n ≤ cp) (hl : n ≤ 8796093022208) (hfew : n ≤ 100000 ∨ ∃ x ∈ words, 24 < x.size) {E0 : Int} (h0 : mbE b = E0) (he : E0 = 0) (hok : flOk flags words how) : Calls Tryd.prog 9 #[.agg #[.string b.id, .int .i64 b.valid, .int .i64 b.next, .int .i64 b.high, .slice WA wn wc, .slice MA mn mcp], .int .i64 u, .int .i64 flags, .slice A n cp, .int .i64 how] w (RowsOut (flP b u flags words how) (flE b u flags words how) w) := by
  obtain ⟨⟨g1, g2⟩, hwb, g3, g4⟩ := hok
  have hf := fit_of (h0.trans he)
  have hwn : wn ≤ 64 := by rw [← hx.len]; exact hf.wl
  have hmn : mn ≤ 60 := by rw [← hm.len]; exact hf.ml
  have hn6 : n ≤ 100000 := by have := few_words hwb (by rw [hz.len]; exact hfew); rwa [hz.len] at this
  obtain ⟨hhd, _, _, hwsB, hmsB, hri⟩ := (mb_iff b).1 (h0.trans he)
  obtain ⟨_, hidb, _, hh, hnx⟩ := head_parts hhd
  have hnd := ((wordsB_iff _).1 hwsB).2
  have HND := Lib.hid hnd
  have HMB := Lib.hid hmsB
  have HRI := Lib.hid hri
  have HWB := Lib.hid hwb
  have HXL := Lib.hid hx.len
  obtain ⟨R, hR⟩ : ∃ R, R = flP b u flags words how := ⟨_, rfl⟩
  obtain ⟨E, hE⟩ : ∃ E, E = flE b u flags words how := ⟨_, rfl⟩
  have HR := Lib.hid hR
  have HE := Lib.hid hE
  have HFF := Lib.hid hf
  rw [← hR, ← hE]
  have none : ∀ {w' : World}, E ≠ 0 → Below w.heap.size w w' → RowsOut R E w (.returned (.tuple #[.slice none 0 0, .int .i64 E])) w' := fun hne hb => by
    have : R = [] := by rw [hR]; unfold flP; rw [if_neg (by rw [← hE]; exact hne)]
    rw [this]
    exact rowsOut_none _ hb
  have NONE := Lib.hid (fun (w' : World) => @none w')
  have hgd : E = match theM b.msgs u with
    | Option.none => 6
    | some m => if flSame b m flags words how then 0 else if 64 < (flAll b words how).length then 4 else if 1000000 ≤ b.high then 9 else 0 := by
    rw [hE]
    unfold flE
    rw [if_neg (by rw [h0.trans he, hwb]; simp only [ne_eq, not_true_eq_false, false_or, Bool.true_eq_false, not_or, Bool.not_eq_false]; exact ⟨inB_true g1 g2, inB_true g3 g4⟩)]
    cases theM b.msgs u <;> rfl
  have HGD := Lib.hid hgd
  clear hR hE hf hwb hfew none hgd hnd hmsB hwsB hhd hri
  have f0 := FR.start w b (.slice WA wn wc) (.slice MA mn mcp)
  have F0 := Lib.hid f0
  have HX := Lib.hid hx
  have HM := Lib.hid hm
  have HZ := Lib.hid hz
  have HT := Lib.hid ht
  have H0 := Lib.hid h0
  have hxm := hx.max
  clear hx hm hz ht h0 f0
  go_enter Tryd.func9, Tryd.ntmps9
  go_upto_region 1 with fail
  generalize (World.alloc w _) = w1 at F0 ⊢
  have hs1 := F0.out.lt
  have km := may_box (bid := b.id) (bv := b.valid) (bn := b.next) (bh := b.high) (mc := mcp) (StrsAt.below HX.out F0.out.bel hB) (MsgsAt.below HM.out F0.out.bel hB) (show B ≤ w1.heap.size by omega) hwc
  rw [show mbE ⟨b.id, b.valid, b.next, b.high, b.words, b.msgs⟩ = E0 from H0.out] at km
  have KM := Lib.hid km
  clear km
  obtain ⟨c0, c1, c2, c3, c4, c5⟩ := F0.out.facts
  subst he
  go_upto_region 3 with (first
    | (go_at_call 15; go_loud (
       refine KM.out.mono ?_
       rintro e w2 ⟨rfl, hb2⟩
       have F2 := Lib.hid (F0.out.go hb2)
       have hs2 := F2.out.lt
       have kw := mayWords_any (cp := cp) (HT.out.below F2.out.bel (Nat.le_refl _)).2 (StrsAt.below HZ.out F2.out.bel hB) (show B ≤ w2.heap.size by omega) hl
       rw [HWB.out] at kw
       have KW := Lib.hid kw
       clear hb2 kw c0 c1 c2 c3 c4 c5))
    | (go_at_call 16; go_loud (
       refine KW.out.mono ?_
       rintro e w3 ⟨rfl, hb3⟩
       have F3 := Lib.hid (F2.out.go hb3)
       clear hb3)))
  have hs3 := F3.out.lt
  have KF := Lib.hid (find_any (bid := b.id) (bv := b.valid) (bn := b.next) (bh := b.high) (WA := WA) (wn := wn) (wc := wc) (mc := mcp) (uid := u) (MsgsAt.below HM.out F3.out.bel hB) (show B ≤ w3.heap.size by omega))
  obtain ⟨c0, c1, c2, c3, c4, c5⟩ := F3.out.facts
  rcases RwW8.find_cases b.msgs u with hfi | ⟨k, m, hmk, hmu, hfi⟩
  · rw [hfi] at KF
    have hth : theM b.msgs u = Option.none := theM_none.2 (by rw [hfi]; decide)
    have he6 : E = 6 := by rw [HGD.out, hth]
    subst he6
    clear hfi hth
    go_wp2_with (go_at_call 30; go_loud (
       refine KF.out.mono ?_
       rintro e w4 ⟨rfl, hb4⟩
       have F4 := Lib.hid (F3.out.go hb4)
       clear hb4))
    go_ret2
    exact NONE.out _ (by decide) F4.out.bel
  rw [hfi] at KF
  have hth : theM b.msgs u = some m := by rw [← hmu]; exact (theM_at HRI.out hmk).1
  rw [hth] at HGD
  have HTH := Lib.hid hth
  have HMU := Lib.hid hmu
  have HMK := Lib.hid hmk
  have hkm : k < mn := by have := (List.getElem?_eq_some_iff.1 hmk).1; have := HM.out.len; omega
  clear hfi hth hmu
  go_upto_region 6 with (go_at_call 30; go_loud (
       refine KF.out.mono ?_
       rintro e w4 ⟨rfl, hb4⟩
       have F4 := Lib.hid (F3.out.go hb4)
       clear hb4 c0 c1 c2 c3 c4 c5))
  clear KF F3 F2 KM KW
  have hs4 := F4.out.lt
  obtain ⟨ad, mu, md, d, id, fl, ks, tx, K, kn, kc, rfl, hab, e1, m0, m1, m2, m3, m4, m5, m6, hkc, hks, y1, y2⟩ := MsgsAt.sp HM.out F4.out.bel hB hkm
  rw [hmk] at e1
  obtain rfl := Option.some.inj e1
  obtain ⟨p1, p2, p3, p4, p5, p6, p7⟩ := mm_parts (HMB.out _ (List.mem_of_getElem? hmk)).1
  have hkln := hks.len
  have hkn6 : kn ≤ 64 := by have h1 := RwOwn.keys_le p6; have h2 := HXL.out; simp only at h1; omega
  have HKS := Lib.hid hks
  have HP6 := Lib.hid p6
  simp only at p5
  have h9 : 0 ≤ (0 : Int) := by decide
  clear e1 hmk hks p1 p2 p3 p4 p6 p7 hkln
  obtain ⟨c0, c1, c2, c3, c4, c5⟩ := F4.out.facts
  go_upto_region 7 with fail
  have F5 := Lib.hid (F4.out.alloc (.cells #[.int .i64 mu, .int .i64 md, .int .i64 d, .string id, .int .i64 fl, .slice K kn kc, .string tx] 28))
  have M5 := Lib.hid (heap_alloc_new w4 (.cells #[.int .i64 mu, .int .i64 md, .int .i64 d, .string id, .int .i64 fl, .slice K kn kc, .string tx] 28))
  have HK5 := Lib.hid (IntsAt.below HKS.out ((Below.refl w4.heap.size w4).alloc (Nat.le_refl _) (.cells #[.int .i64 mu, .int .i64 md, .int .i64 d, .string id, .int .i64 fl, .slice K kn kc, .string tx] 28)) (by omega))
  obtain ⟨Q, hQ⟩ : ∃ Q, Q = w4.heap.size := ⟨_, rfl⟩
  rw [← hQ] at M5 ⊢
  have hQw : w.heap.size < Q := by omega
  clear m0 m1 m2 m3 m4 m5 m6 c0 c1 c2 c3 c4 c5 hQ
  generalize (World.alloc w4 _) = w5 at F5 M5 HK5 ⊢
  have hs5 := F5.out.lt
  have hQ5 : Q < w5.heap.size := (Array.getElem?_eq_some_iff.1 M5.out).1
  obtain ⟨F, hF⟩ : ∃ F, F = flBits ⟨mu, md, d, id, fl, ks, tx⟩ flags how := ⟨_, rfl⟩
  obtain ⟨ww, hww⟩ : ∃ ww, ww = wds b.words ks words how := ⟨_, rfl⟩
  have kh := shall_any (bid := b.id) (bv := b.valid) (bn := b.next) (bh := b.high) (MA := some ad) (mn := mn) (mcp := mcp) (u := mu) (md := md) (d := d) (id := id) (tx := tx) (fl := fl) (flags := flags) (how := how) (wc := wc) (kc := kc) (cp := cp) (B := B) (StrsAt.below HX.out F5.out.bel hB) HK5.out (StrsAt.below HZ.out F5.out.bel hB) (by omega) (by omega) hn6 hn ⟨g3, g4⟩
  rw [show (if how = 1 then orI fl flags else if how = 2 then notI fl flags else flags) = F from by rw [hF]; rfl, ← hww] at kh
  have KH := Lib.hid kh
  have HFB := Lib.hid hF
  have HWW := Lib.hid hww
  have hwwl : ww.length ≤ 200000 := by
    have h1 := own_le b.words ks
    have h2 := HKS.out.len
    have h3 := HZ.out.len
    rw [hww]
    unfold wds
    split
    · rw [List.length_append]; omega
    · split
      · have := (newW_sub words (wordsOf b.words ks)).length_le; omega
      · omega
  clear kh hF hww
  obtain ⟨c0, c1, c2, c3, c4, c5⟩ := F5.out.facts
  obtain ⟨m0, m1, m2, m3, m4, m5, m6⟩ := seven_at M5.out
  go_upto_region 8 with (go_at_call 31; go_loud (
     refine KH.out.mono ?_
     rintro e w6 ⟨A6, n6, k6, rfl, hk6, hx6, hb6⟩
     have F6 := Lib.hid (F5.out.go hb6)
     have M6 := Lib.hid ((hb6.block Q hQ5).trans M5.out)
     have X6 := Lib.hid hx6
     have HK6 := Lib.hid (IntsAt.below HK5.out hb6 (by omega))
     have hn66 : n6 ≤ 200000 := by have := hx6.len; omega
     have hs56 := hb6.size
     clear hb6 hx6 c0 c1 c2 c3 c4 c5 m0 m1 m2 m3 m4 m5 m6))
  clear KH F5 M5 HK5
  have hs6 := F6.out.lt
  have KWO := Lib.hid (without_any (cp := k6) (oc := wc) X6.out (StrsAt.below HX.out F6.out.bel hB) (Nat.le_refl _) (by omega) (show n6 ≤ 1000000 by omega))
  obtain ⟨fn, hfn⟩ : ∃ fn, fn = (newW b.words ww).length := ⟨_, rfl⟩
  have HFN := Lib.hid hfn
  have hfnl : fn ≤ 200000 := by have := (newW_sub b.words ww).length_le; omega
  clear hfn
  obtain ⟨c0, c1, c2, c3, c4, c5⟩ := F6.out.facts
  go_upto_region 9 with (go_at_call 17; go_loud (
     refine KWO.out.mono ?_
     rintro e w7 ⟨A7, k7, rfl, ho7, hb7⟩
     rw [← HFN.out] at ho7 ⊢
     have F7 := Lib.hid (F6.out.go hb7)
     have M7 := Lib.hid ((hb7.block Q (by omega)).trans M6.out)
     have X7 := Lib.hid (StrsAt.below X6.out hb7 (Nat.le_refl _))
     have HK7 := Lib.hid (IntsAt.below HK6.out hb7 (by omega))
     have O7 := Lib.hid ho7
     have hs67 := hb7.size
     clear hb7 ho7 c0 c1 c2 c3 c4 c5))
  clear KWO F6 M6 X6 HK6
  have hs7 := F7.out.lt
  obtain ⟨c0, c1, c2, c3, c4, c5⟩ := F7.out.facts
  have hal : (flAll b words how).length = wn + fn := by
    have h1 := new_wds (ws := b.words) (ks := ks) (words := words) (how := how)
    rw [← HWW.out] at h1
    unfold flAll
    by_cases h2 : how = 2
    · rw [if_pos h2, HXL.out, HFN.out, h1, if_pos h2]; simp
    · rw [if_neg h2, HFN.out, h1, if_neg h2]; unfold allW; rw [List.length_append, HXL.out]
  rw [hal] at HGD
  have hgd := HGD.out
  by_cases g5 : 64 < wn + fn
  · have he4 : E = 4 := by
      rw [hgd, if_neg, if_pos g5]
      intro hs
      have := same_none (words := words) (how := how) HND.out HP6.out hs.2
      simp only at this
      rw [← HWW.out] at this
      have h2 := HFN.out
      rw [this] at h2
      simp at h2
      omega
    subst he4
    clear hgd hal
    go_wp2_with fail
    go_ret2
    exact NONE.out _ (by decide) F7.out.bel
  rw [if_neg g5] at hgd
  clear hal
  obtain ⟨al, hal⟩ : ∃ al, al = (b.words ++ newW b.words ww).length := ⟨_, rfl⟩
  have hall : al = wn + fn := by rw [hal, List.length_append, HXL.out, HFN.out]
  have HAA := Lib.hid hal
  have hal64 : al ≤ 64 := by omega
  clear hal hall
  obtain ⟨keys, hkeys⟩ : ∃ keys, keys = flKeys b ⟨mu, md, d, id, fl, ks, tx⟩ words how := ⟨_, rfl⟩
  have hkk : kW (b.words ++ newW b.words ww) ww = keys := by
    rw [hkeys, HWW.out]
    exact keys_wds (m := ⟨mu, md, d, id, fl, ks, tx⟩) HND.out HP6.out
  obtain ⟨kl, hkl⟩ : ∃ kl, kl = keys.length := ⟨_, rfl⟩
  have HKL := Lib.hid hkl
  have HKE := Lib.hid hkeys
  have hkl6 : kl ≤ 64 := by rw [hkl, ← hkk]; unfold kW; refine Nat.le_trans (idx_le _ _) ?_; have := HAA.out; omega
  have HKK := Lib.hid hkk
  clear hkeys hkk hkl
  have st7 := strsAt_ownB O7.out (fun g e => (O7.out.lt g e).2) (by omega) (fun x hx => strs_size X7.out x ((newW_sub _ _).subset hx))
  have k0 := cell_new w7 #[.slice WA wn wc, .slice A7 fn k7] 22 0
  have k1 := cell_new w7 #[.slice WA wn wc, .slice A7 fn k7] 22 1
  rw [add_new] at k0 k1
  have hsz8 : (w7.alloc (.cells #[.slice WA wn wc, .slice A7 fn k7] 22)).heap.size = w7.heap.size + 1 := by simp
  have kcc := concat_any (c1 := wc) (c2 := k7) (g := w7.heap.size) (StrsAt.below HX.out (F7.out.alloc (.cells #[.slice WA wn wc, .slice A7 fn k7] 22)).bel hB) (StrsAt.below st7 ((Below.refl w7.heap.size w7).alloc (Nat.le_refl _) (.cells #[.slice WA wn wc, .slice A7 fn k7] 22)) (Nat.le_refl _)) (by omega) (by omega) (by omega) k0 k1 (by omega)
  have KCC := Lib.hid kcc
  have B78 := Lib.hid ((Below.refl w7.heap.size w7).alloc (Nat.le_refl _) (.cells #[.slice WA wn wc, .slice A7 fn k7] 22))
  clear kcc k0 k1 st7 hsz8
  go_upto_region 12 with (first
    | (go_at_call 19; go_loud (
       refine KCC.out.mono ?_
       rintro e w8 ⟨A8, k8, rfl, ho8, hb8⟩
       rw [← HAA.out] at ho8 ⊢
       have Z8 := Lib.hid (B78.out.trans (hb8.mono B78.out.size))
       have O8 := Lib.hid ho8
       have hs78 := Z8.out.size
       have sa := strsAt_ownB O8.out (fun g e => (O8.out.lt g e).2) (by omega) (fun x hx => by
         rcases List.mem_append.1 hx with hx | hx
         · exact strs_size HX.out x hx
         · exact strs_size X7.out x ((newW_sub _ _).subset hx))
       have kp := places_any (cp := k8) (oc := k6) sa (StrsAt.below X7.out Z8.out (by omega)) (Nat.le_refl _) (by omega) (show al ≤ 1000000 by omega)
       rw [HKK.out] at kp
       have KP := Lib.hid kp
       clear hb8 ho8 sa kp c0 c1 c2 c3 c4 c5))
    | (go_at_call 20; go_loud (
       refine KP.out.mono ?_
       rintro e w9 ⟨A9, k9, rfl, ho9, hb9⟩
       rw [← HKL.out] at ho9 ⊢
       have Z9 := Lib.hid (Z8.out.trans (hb9.mono hs78))
       have O9 := Lib.hid ho9
       have hs89 := hb9.size
       clear hb9 ho9)))
  clear KCC B78 KP
  have HK9 := Lib.hid (IntsAt.below HK7.out Z9.out (by omega))
  have F9 := Lib.hid (F7.out.go Z9.out)
  have M9 := Lib.hid ((Z9.out.block Q (by omega)).trans M7.out)
  obtain ⟨sm, hsm⟩ : ∃ sm, sm = decide (F = fl ∧ keys = ks) := ⟨_, rfl⟩
  have HSM := Lib.hid hsm
  have HSAME := Lib.hid (show flSame b ⟨mu, md, d, id, fl, ks, tx⟩ flags words how ↔ (F = fl ∧ keys = ks) from by unfold flSame; rw [← HFB.out, ← HKE.out])
  have hs9 := F9.out.lt
  have hb19 : b.high ≤ 1000000 := hh.2
  clear hgd hsm
  go_cut [87] (fun s87 wx => s87 = .bool sm ∧ Hid (Below w9.heap.size w9 wx))
  case first =>
    obtain ⟨m0, m1, m2, m3, m4, m5, m6⟩ := seven_at M9.out
    have KE := Lib.hid (equalI_any (cp := k9) (cq := kc) (intsAt_own O9.out (by omega)) HK9.out)
    obtain ⟨kq, hkq⟩ : ∃ kq, kq = decide (keys = ks) := ⟨_, rfl⟩
    rw [← hkq] at KE
    have HKQ := Lib.hid hkq
    clear hkq
    by_cases gF : F = fl
    · have gb : (F == fl) = true := by simpa using gF
      have HGF := Lib.hid gF
      clear gF
      go_wp2_with (go_at_call 32; go_loud (
        refine KE.out.mono ?_
        rintro e w10 ⟨rfl, nq, rfl⟩))
      go_meet
      exact ⟨by rw [HSM.out, HKQ.out]; simp [HGF.out], below_drewN (Below.refl _ _) _⟩
    · have gb : (F == fl) = false := by simpa using gF
      have HGF := Lib.hid gF
      clear gF
      go_wp2_with fail
      go_meet
      exact ⟨by rw [HSM.out]; simp [HGF.out], Below.refl _ _⟩
  case rest =>
    obtain ⟨rfl, Z10⟩ := hcut
    obtain ⟨w10, rfl⟩ : ∃ w10, w10 = wc := ⟨_, rfl⟩
    have F10 := Lib.hid (F9.out.go Z10.out)
    have Z710 := Lib.hid (Z9.out.trans (Z10.out.mono Z9.out.size))
    have O10 := Lib.hid (own_block O9.out fun g e => Z10.out.block g (O9.out.lt g e).2)
    have hs10 := F10.out.lt
    have hs710 := Z710.out.size
    clear F9 F7 M7 M9 HK7 HK9 O8 Z8 F4 F0
    obtain ⟨c0, c1, c2, c3, c4, c5⟩ := F10.out.facts
    cases sm with
    | true =>
      have hs := HSAME.out.2 (of_decide_eq_true HSM.out.symm)
      have he0 : E = 0 := by rw [HGD.out, if_pos hs]
      have hr0 : R = [] := by
        rw [HR.out]
        unfold flP
        rw [if_pos (by rw [← HE.out]; exact he0)]
        unfold flL
        rw [HTH.out]
        show (if _ then _ else _) = _
        rw [if_pos hs]
      subst he0
      clear hs
      go_wp2_with fail
      go_ret2
      rw [hr0]
      exact rowsOut_none 0 F10.out.bel
    | false =>
      have hs : ¬ flSame b ⟨mu, md, d, id, fl, ks, tx⟩ flags words how := fun h => by have := HSM.out.symm; rw [decide_eq_true (HSAME.out.1 h)] at this; cases this
      have hgd : E = if 1000000 ≤ b.high then 9 else 0 := by rw [HGD.out, if_neg hs, if_neg g5]
      have HNS := Lib.hid hs
      clear hs
      by_cases g6 : b.high = 1000000
      · have he9 : E = 9 := by rw [hgd, if_pos (by omega)]
        subst he9
        have g6b : (b.high == 1000000) = true := by simpa using g6
        clear hgd
        go_wp2_with fail
        go_ret2
        exact NONE.out _ (by decide) F10.out.bel
      have he0 : E = 0 := by rw [hgd, if_neg (by omega)]
      subst he0
      have g6b : (b.high == 1000000) = false := by simpa using g6
      have hwr : IntKind.i64.wrap (b.high + 1) = b.high + 1 := by rw [IntKind.wrap_i64]; omega
      clear hgd NONE g6
      have HRR := Lib.hid (show R = (newW b.words ww).map wRow ++ [⟨2, u, b.high + 1, ⟨0, 0, 0, emT, F, keys, emT⟩, emT⟩] from by
        rw [HR.out]
        unfold flP
        rw [if_pos HE.out.symm]
        unfold flL
        rw [HTH.out]
        show (if _ then _ else _) = _
        rw [if_neg HNS.out, HFB.out, HKE.out]
        unfold flR
        congr 2
        have h1 := new_wds (ws := b.words) (ks := ks) (words := words) (how := how)
        rw [← HWW.out] at h1
        rw [h1]
        rfl)
      go_upto_region 17 with fail
      have F11 := Lib.hid (F10.out.alloc (.cells #[.int .i64 2, .int .i64 u, .int .i64 (b.high + 1), .int .i64 0, .int .i64 0, .int .i64 0, .string ⟨#[]⟩, .int .i64 F, .slice A9 kl k9, .string ⟨#[]⟩, .string ⟨#[]⟩] 51))
      have Z11 := Lib.hid (Z710.out.trans ((Below.refl w10.heap.size w10).alloc (Nat.le_refl _) (.cells #[.int .i64 2, .int .i64 u, .int .i64 (b.high + 1), .int .i64 0, .int .i64 0, .int .i64 0, .string ⟨#[]⟩, .int .i64 F, .slice A9 kl k9, .string ⟨#[]⟩, .string ⟨#[]⟩] 51) |>.mono hs710))
      have P11 := Lib.hid (heap_alloc_new w10 (.cells #[.int .i64 2, .int .i64 u, .int .i64 (b.high + 1), .int .i64 0, .int .i64 0, .int .i64 0, .string ⟨#[]⟩, .int .i64 F, .slice A9 kl k9, .string ⟨#[]⟩, .string ⟨#[]⟩] 51))
      have O11 := Lib.hid (O10.out.alloc (.cells #[.int .i64 2, .int .i64 u, .int .i64 (b.high + 1), .int .i64 0, .int .i64 0, .int .i64 0, .string ⟨#[]⟩, .int .i64 F, .slice A9 kl k9, .string ⟨#[]⟩, .string ⟨#[]⟩] 51))
      obtain ⟨P, hP⟩ : ∃ P, P = w10.heap.size := ⟨_, rfl⟩
      rw [← hP] at P11 ⊢
      clear hP c0 c1 c2 c3 c4 c5 F10 Z710 O10
      generalize (World.alloc w10 _) = w11 at F11 Z11 P11 O11 ⊢
      have hs11 := F11.out.lt
      have hs711 := Z11.out.size
      have hP11 : P < w11.heap.size := (Array.getElem?_eq_some_iff.1 P11.out).1
      have hb1 : fn + 1 ≤ maxLen := by unfold maxLen; omega
      have hb2 : (fn + 1) * 128 ≤ 140737488355328 := by omega
      have KWR := Lib.hid (fun (w' : World) (hb : Below w11.heap.size w11 w') => show Calls Tryd.prog 22 #[.slice A7 fn k7] w' (fun e w12 => ∃ A c, e = .returned (.slice A fn c) ∧ w12.ownsRow w11.heap.size 51 11 (.slice A fn c) fn (rc ((newW b.words ww).map rawW)) ∧ Below w11.heap.size w11 w12 ∧ Below w'.heap.size w' w12) from by
        have hb7 := Z11.out.trans (hb.mono hs711)
        have q2 := strsAt_ownB (own_block O7.out fun g e => hb7.block g (O7.out.lt g e).2) (B := w7.heap.size) (fun g e => (O7.out.lt g e).2) (by omega) (fun x hx => strs_size X7.out x ((newW_sub _ _).subset hx))
        refine (wordRows_any (cp := k7) q2 hb7.size (by omega)).mono ?_
        rintro e w12 ⟨A12, k12, rfl, hown, hbel⟩
        rw [← HFN.out] at hown ⊢
        have hsz := hb.size
        exact ⟨A12, k12, rfl, own_base hown hsz, hb.trans (hbel.mono hsz), hbel⟩)
      have n11 := eleven_at P11.out
      go_region_held3 (fun wr => wr.cell? { block := P, off := 0 } = some (.int .i64 2) ∧ wr.cell? { block := P, off := 1 } = some (.int .i64 u) ∧ wr.cell? { block := P, off := 2 } = some (.int .i64 (b.high + 1)) ∧ wr.cell? { block := P, off := 3 } = some (.int .i64 0) ∧ wr.cell? { block := P, off := 4 } = some (.int .i64 0) ∧ wr.cell? { block := P, off := 5 } = some (.int .i64 0) ∧ wr.cell? { block := P, off := 6 } = some (.string ⟨#[]⟩) ∧ wr.cell? { block := P, off := 7 } = some (.int .i64 F) ∧ wr.cell? { block := P, off := 8 } = some (.slice A9 kl k9) ∧ wr.cell? { block := P, off := 9 } = some (.string ⟨#[]⟩) ∧ wr.cell? { block := P, off := 10 } = some (.string ⟨#[]⟩))
        (with_reducible first | exact n11 | exact X12 | exact X12a | exact X13 | go_keep) (first
        | (go_at_call 22
           ((with_reducible refine (KWR.out _ ?d1).mono ?_); rotate_left)
           case d1 => first | exact Below.refl _ _ | exact (Below.refl _ _).drew | exact (Below.refl _ _).alloc (Nat.le_refl _) _ | exact ((Below.refl _ _).alloc (Nat.le_refl _) _).drew
           go_loud (
             rintro e w12 ⟨A12, k12, rfl, hown, hb12, hbel⟩
             have HB12 := Lib.hid hb12
             have P12 := Lib.hid ((HB12.out.block P hP11).trans P11.out)
             have X12 := eleven_at P12.out
             have HR12 := Lib.hid hown
             have HK12 := Lib.hid (own_block O11.out fun g e => HB12.out.block g (O11.out.lt g e).2)
             have OA := Lib.hid (HR12.out.alloc (.cells #[.int .i64 2, .int .i64 u, .int .i64 (b.high + 1), .int .i64 0, .int .i64 0, .int .i64 0, .string ⟨#[]⟩, .int .i64 F, .slice A9 kl k9, .string ⟨#[]⟩, .string ⟨#[]⟩] 51))
             have SA := Lib.hid (src_cells w12 (t := 51) (rowOnes2 (b.high + 1) 0 0 0 0 ⟨#[]⟩ F A9 kl k9 2 u ⟨#[]⟩))
             have HC12 := Lib.hid HB12.out.size
             have hw12 : w.heap.size ≤ w12.heap.size := Nat.le_trans (Nat.le_of_lt hs11) HB12.out.size
             have HA12 := Lib.hid (Nat.le_trans HC12.out (Below.size ((Below.refl w12.heap.size w12).alloc (Nat.le_refl _) (.cells #[.int .i64 2, .int .i64 u, .int .i64 (b.high + 1), .int .i64 0, .int .i64 0, .int .i64 0, .string ⟨#[]⟩, .int .i64 F, .slice A9 kl k9, .string ⟨#[]⟩, .string ⟨#[]⟩] 51))))
             have HBB := Lib.hid (F11.out.bel.trans (HB12.out.mono (Nat.le_of_lt hs11)))
             have P12a := Lib.hid ((heap_alloc_old w12 (.cells #[.int .i64 2, .int .i64 u, .int .i64 (b.high + 1), .int .i64 0, .int .i64 0, .int .i64 0, .string ⟨#[]⟩, .int .i64 F, .slice A9 kl k9, .string ⟨#[]⟩, .string ⟨#[]⟩] 51) (Array.getElem?_eq_some_iff.1 P12.out).1).trans P12.out)
             have X12a := eleven_at P12a.out
             first
             | (have sb2 : w12.heap[w11.heap.size]? = some (.cells #[.int .i64 2, .int .i64 u, .int .i64 (b.high + 1), .int .i64 0, .int .i64 0, .int .i64 0, .string ⟨#[]⟩, .int .i64 F, .slice A9 kl k9, .string ⟨#[]⟩, .string ⟨#[]⟩] 51 (0, 0)) := (hbel.block w11.heap.size (by first | (simp; done) | (show _ < (World.alloc w11 _).heap.size; simp))).trans (by first | exact heap_alloc_new w11 (.cells #[.int .i64 2, .int .i64 u, .int .i64 (b.high + 1), .int .i64 0, .int .i64 0, .int .i64 0, .string ⟨#[]⟩, .int .i64 F, .slice A9 kl k9, .string ⟨#[]⟩, .string ⟨#[]⟩] 51))
                have SB := Lib.hid (src_block sb2 (rowOnes2 (b.high + 1) 0 0 0 0 ⟨#[]⟩ F A9 kl k9 2 u ⟨#[]⟩))
                clear sb2
                clear hown hbel hb12
                dsimp only)
             | (have SB := Lib.hid True.intro
                clear hown hbel hb12
                dsimp only)))
        | ((with_reducible refine step_rows elR (c := 1) rfl (.tmp 100) (.tmp 102) rfl (by simp [Act.eval]) (by simp [Act.eval]) OA.out SA.out hb1 hb2 HA12.out ?_)
           go_loud (
             intro v13 w13 hown13 hg13 _
             obtain ⟨A13, k13, rfl, hk13⟩ := own_slice hown13
             have P13 := Lib.hid ((hg13.block P (Array.getElem?_eq_some_iff.1 P12a.out).1 (fun e => by have := (OA.out.lt P e.symm).1; omega)).trans P12a.out)
             have X13 := eleven_at P13.out
             have HK13 := Lib.hid (own_block (HK12.out.alloc (.cells #[.int .i64 2, .int .i64 u, .int .i64 (b.high + 1), .int .i64 0, .int .i64 0, .int .i64 0, .string ⟨#[]⟩, .int .i64 F, .slice A9 kl k9, .string ⟨#[]⟩, .string ⟨#[]⟩] 51)) fun g e => hg13.block g ((HK12.out.alloc (.cells #[.int .i64 2, .int .i64 u, .int .i64 (b.high + 1), .int .i64 0, .int .i64 0, .int .i64 0, .string ⟨#[]⟩, .int .i64 F, .slice A9 kl k9, .string ⟨#[]⟩, .string ⟨#[]⟩] 51)).lt g e).2 fun e2 => own_ne (HK12.out.alloc (.cells #[.int .i64 2, .int .i64 u, .int .i64 (b.high + 1), .int .i64 0, .int .i64 0, .int .i64 0, .string ⟨#[]⟩, .int .i64 F, .slice A9 kl k9, .string ⟨#[]⟩, .string ⟨#[]⟩] 51)) OA.out e2.symm (by decide) e)
             have HB13 := Lib.hid ((HBB.out.alloc hw12 (.cells #[.int .i64 2, .int .i64 u, .int .i64 (b.high + 1), .int .i64 0, .int .i64 0, .int .i64 0, .string ⟨#[]⟩, .int .i64 F, .slice A9 kl k9, .string ⟨#[]⟩, .string ⟨#[]⟩] 51)).grown hg13 (by simp; omega) (fun g e => by have := (HR12.out.lt g e).1; omega))
             have HO13 := Lib.hid hown13
             clear hown13 hg13
             dsimp only))
        | ((with_reducible refine step_rows elR (c := 1) rfl (.tmp 100) (.tmp 102) rfl (by simp [Act.eval]) (by simp [Act.eval]) HR12.out SB.out hb1 hb2 HC12.out ?_)
           go_loud (
             intro v13 w13 hown13 hg13 _
             obtain ⟨A13, k13, rfl, hk13⟩ := own_slice hown13
             have P13 := Lib.hid ((hg13.block P (Array.getElem?_eq_some_iff.1 P12.out).1 (fun e => by have := (HR12.out.lt P e.symm).1; omega)).trans P12.out)
             have X13 := eleven_at P13.out
             have HK13 := Lib.hid (own_block HK12.out fun g e => hg13.block g (HK12.out.lt g e).2 fun e2 => own_ne HK12.out HR12.out e2.symm (by decide) e)
             have HB13 := Lib.hid (HBB.out.grown hg13 hw12 (fun g e => by have := (HR12.out.lt g e).1; omega))
             have HO13 := Lib.hid hown13
             clear hown13 hg13
             dsimp only)))
      all_goals
        go_wp2_with fail
        go_ret2
        rw [HRR.out]
        exact flag_fin HKL.out HFN.out (fun x hx => strs_size X7.out x ((newW_sub _ _).subset hx)) HO13.out HK13.out (by omega) (by omega) HB13.out
end Go.Proofs.YtnicijeeocknaaaDoor.RwW17
