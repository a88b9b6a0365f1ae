/-
  BoxNames: a message's first name tells box and UID apart; it may be a message's.
-/
import Derived.Test.YtabcfhjfdkbhaaaDoorBxAw
import Derived.Deep.DeepCutAuto
namespace Go.Proofs.YtabcfhjfdkbhaaaDoor.BxNames
open Go.RowKit Go.Proofs.YtabcfhjfdkbhaaaDoor.BxD Go.Proofs.YtabcfhjfdkbhaaaDoor.BxKit Go.Proofs.YtabcfhjfdkbhaaaDoor.BxA Go.Proofs.YtabcfhjfdkbhaaaDoor.BxAtom Go.Proofs.YtabcfhjfdkbhaaaDoor.BxM Go.Proofs.YtabcfhjfdkbhaaaDoor.BxO Go.Proofs.YtabcfhjfdkbhaaaDoor.BxAw

theorem digit_at (u i : Nat) (h : i < Lib.nDigits u) : (Lib.decDigits u)[i]? = some (Lib.dg u (Lib.nDigits u - 1 - i)) := by
  rw [Lib.decDigits_eq, List.getElem?_map, List.getElem?_range h]; rfl
theorem dg_val (u j : Nat) : (Lib.dg u j).toNat = 48 + u / 10 ^ j % 10 := by
  unfold Lib.dg
  have : u / 10 ^ j % 10 < 10 := Nat.mod_lt _ (by decide)
  rw [UInt8.toNat_ofNat', Nat.mod_eq_of_lt (by omega)]
theorem digit_range (u : Nat) (c : UInt8) (hc : c ∈ Lib.decDigits u) : 48 ≤ c.toNat ∧ c.toNat ≤ 57 := by
  obtain ⟨i, hi, e⟩ := List.getElem_of_mem hc
  rw [Lib.decDigits_length] at hi
  have h1 := digit_at u i hi
  rw [List.getElem?_eq_getElem (by rw [Lib.decDigits_length]; exact hi), e] at h1
  have h2 := dg_val u (Lib.nDigits u - 1 - i)
  have h3 : u / 10 ^ (Lib.nDigits u - 1 - i) % 10 < 10 := Nat.mod_lt _ (by decide)
  rw [← Option.some.inj h1] at h2
  omega
/-- What digits say. -/
def val (l : List UInt8) : Nat := l.foldl (fun n c => n * 10 + (c.toNat - 48)) 0
theorem val_snoc (l : List UInt8) (c : UInt8) : val (l ++ [c]) = val l * 10 + (c.toNat - 48) := by unfold val; rw [List.foldl_append]; rfl
theorem val_digits : ∀ u : Nat, val (Lib.decDigits u) = u := by
  intro u
  induction u using Nat.strongRecOn with
  | _ u ih =>
    by_cases h : u < 10
    · rw [Lib.decDigits_one h]
      unfold val
      simp only [List.foldl_cons, List.foldl_nil]
      rw [UInt8.toNat_ofNat', Nat.mod_eq_of_lt (by omega)]
      omega
    · rw [Lib.decDigits, dif_neg h, val_snoc, ih _ (by omega), UInt8.toNat_ofNat', Nat.mod_eq_of_lt (by omega)]
      omega
theorem digits_inj {u v : Nat} (h : Lib.decDigits u = Lib.decDigits v) : u = v := by rw [← val_digits u, h, val_digits]
theorem split45 : ∀ (d1 d2 r1 r2 : List UInt8), (45 : UInt8) ∉ d1 → (45 : UInt8) ∉ d2 → d1 ++ 45 :: r1 = d2 ++ 45 :: r2 → d1 = d2 ∧ r1 = r2
  | [], [], _, _, _, _, h => ⟨rfl, by simpa using h⟩
  | [], c :: d2, _, _, _, h2, h => by
    simp only [List.nil_append, List.cons_append, List.cons.injEq] at h
    exact absurd (by rw [h.1]; simp) h2
  | c :: d1, [], _, _, h1, _, h => by
    simp only [List.nil_append, List.cons_append, List.cons.injEq] at h
    exact absurd (by rw [← h.1]; simp) h1
  | c :: d1, c' :: d2, r1, r2, h1, h2, h => by
    simp only [List.cons_append, List.cons.injEq] at h
    obtain ⟨rfl, h⟩ := h
    obtain ⟨rfl, e⟩ := split45 d1 d2 r1 r2 (fun hm => h1 (List.mem_cons_of_mem _ hm)) (fun hm => h2 (List.mem_cons_of_mem _ hm)) h
    exact ⟨rfl, e⟩
theorem own_list (id : ByteArray) {u : Int} (h : 0 ≤ u) : (ownT id u).data.toList = 101 :: (Lib.decDigits u.toNat ++ 45 :: id.data.toList) := by
  rw [own_parts, digs_eq, show max u 0 = u by omega]
  simp [ByteArray.data_append]
theorem own_inj {a b : ByteArray} {p q : Int} (hp : 0 ≤ p) (hq : 0 ≤ q) (h : ownT a p = ownT b q) : a = b ∧ p = q := by
  have h1 : (ownT a p).data.toList = (ownT b q).data.toList := by rw [h]
  rw [own_list a hp, own_list b hq, List.cons.injEq] at h1
  have n45 : ∀ n, (45 : UInt8) ∉ Lib.decDigits n := fun n hm => by have := digit_range n _ hm; revert this; decide
  obtain ⟨h2, h3⟩ := split45 _ _ _ _ (n45 _) (n45 _) h1.2
  have := digits_inj h2
  refine ⟨ByteArray.ext ?_, by omega⟩
  exact Array.toList_inj.1 h3
theorem own_size (id : ByteArray) {u : Int} (h : 0 ≤ u) (h2 : u ≤ 999999) : (ownT id u).size ≤ 8 + id.size ∧ 1 ≤ (ownT id u).size := by
  have h1 : (ownT id u).size = (ownT id u).data.toList.length := by simp
  rw [h1, own_list id h]
  have := nDigits_le 5 u.toNat (by omega)
  simp [Lib.decDigits_length]
  omega
theorem own_atom {id : ByteArray} {u : Int} (h : 0 ≤ u) (h2 : u ≤ 999999) (hi : id.size ≤ 12) (ha : atB id = true) : atB (ownT id u) = true := by
  obtain ⟨s1, s2⟩ := own_size id h h2
  have hc : (ownT id u).data.toList.all atC = true := by
    rw [own_list id h, List.all_cons, List.all_append, List.all_cons]
    have h3 : (Lib.decDigits u.toNat).all atC = true := by
      rw [List.all_eq_true]
      intro c hc
      have := digit_range _ c hc
      unfold atC
      simp only [Bool.or_eq_true, Bool.and_eq_true, decide_eq_true_eq]
      exact .inl (.inr this)
    have h4 : id.data.toList.all atC = true := by
      unfold atB at ha
      simp only [Bool.and_eq_true] at ha
      exact ha.2
    rw [h3, h4]; rfl
  exact atB_good (k := (ownT id u).size) s2 (by omega) rfl (by rw [List.take_of_length_le (by simp)]; exact hc)
theorem uid_of (x : Int) : ∃ p : Int, 0 ≤ p ∧ p ≤ 999998 ∧ wrap64 ((IntKind.u64.wrap x).tmod 999999) = p := by
  have h0 : 0 ≤ IntKind.u64.wrap x := by
    show 0 ≤ x % _
    exact Int.emod_nonneg _ (by decide)
  refine ⟨(IntKind.u64.wrap x).tmod 999999, Int.tmod_nonneg _ h0, ?_, ?_⟩
  · have := Int.tmod_lt_of_pos (IntKind.u64.wrap x) (show (0 : Int) < 999999 by decide); omega
  · have h1 := Int.tmod_nonneg 999999 h0
    have h2 := Int.tmod_lt_of_pos (IntKind.u64.wrap x) (show (0 : Int) < 999999 by decide)
    exact IntWalk.wrap64_in _ (by omega)

set_option maxHeartbeats 400000 in
set_option maxRecDepth 100000 in
theorem walk_no {a b : ByteArray} {x y : Int} {w : World} (ht : Tab w) (h : atB a = false ∨ atB b = false ∨ 12 < a.size ∨ 12 < b.size) :
    Calls Tryd.prog 7 #[.string a, .string b, .int .i64 x, .int .i64 y] w fun e w' => e = .returned (.bool true) ∧ Below w.heap.size w w' := by
  have HT := Lib.hid (awake ht)
  clear ht
  by_cases ha : atB a = false
  · go_enter Tryd.func7, Tryd.ntmps7
    go_wp2_with (first | (go_at_call 29; refine (refAtom_any _ _).mono ?_; rintro e w' ⟨rfl, rfl⟩) | (go_at_call 10; refine HT.out.mono ?_; rintro e w2 ⟨rfl, hb2⟩))
    go_ret
    exact ⟨rfl, hb2⟩
  have ha' : atB a = true := by simpa using ha
  clear ha
  by_cases hb : atB b = false
  · go_enter Tryd.func7, Tryd.ntmps7
    go_wp2_with (first | (go_at_call 29; refine (refAtom_any _ _).mono ?_; rintro e w' ⟨rfl, rfl⟩) | (go_at_call 10; refine HT.out.mono ?_; rintro e w2 ⟨rfl, hb2⟩))
    go_ret
    exact ⟨rfl, hb2⟩
  have hb' : atB b = true := by simpa using hb
  clear hb
  by_cases h1 : 12 < a.size
  · have h1' : 12 < (a.size : Int) := by omega
    clear h
    go_enter Tryd.func7, Tryd.ntmps7
    go_wp2_with (first | (go_at_call 29; refine (refAtom_any _ _).mono ?_; rintro e w' ⟨rfl, rfl⟩) | (go_at_call 10; refine HT.out.mono ?_; rintro e w2 ⟨rfl, hb2⟩))
    go_ret
    exact ⟨rfl, hb2⟩
  have h1' : (a.size : Int) ≤ 12 := by omega
  have h2' : 12 < (b.size : Int) := by
    rcases h with h | h | h | h
    · rw [h] at ha'; cases ha'
    · rw [h] at hb'; cases hb'
    · omega
    · omega
  clear h h1
  go_enter Tryd.func7, Tryd.ntmps7
  go_wp2_with (first | (go_at_call 29; refine (refAtom_any _ _).mono ?_; rintro e w' ⟨rfl, rfl⟩) | (go_at_call 10; refine HT.out.mono ?_; rintro e w2 ⟨rfl, hb2⟩))
  go_ret
  exact ⟨rfl, hb2⟩

set_option maxHeartbeats 400000 in
set_option maxRecDepth 100000 in
theorem walk_yes {a b : ByteArray} {x y : Int} {w : World} (ht : Tab w) (ha : atB a = true) (hb : atB b = true) (h1 : a.size ≤ 12) (h2 : b.size ≤ 12) :
    Calls Tryd.prog 7 #[.string a, .string b, .int .i64 x, .int .i64 y] w fun e w' => e = .returned (.bool true) ∧ Below w.heap.size w w' := by
  obtain ⟨p, hp0, hp1, hpx⟩ := uid_of x
  obtain ⟨q, hq0, hq1, hqy⟩ := uid_of y
  have HAW := Lib.hid (fun (wr : World) (h : Below w.heap.size w wr) => awake (ht.below h (Nat.le_refl _)))
  have C1 := own_any (id := a) (u := 1 + p) ht (by omega) (by omega)
  have C2 := fun (wr : World) (h : Below w.heap.size w wr) => own_any (id := b) (u := 1 + q) (ht.below h (Nat.le_refl _)) (by omega) (by omega)
  have hat := own_atom (id := a) (u := 1 + p) (by omega) (by omega) h1 ha
  have inj : ownT a (1 + p) = ownT b (1 + q) → a = b ∧ p = q := fun h => by
    obtain ⟨e1, e2⟩ := own_inj (by omega) (by omega) h
    exact ⟨e1, by omega⟩
  have same : a = b → p = q → ownT a (1 + p) = ownT b (1 + q) := fun e1 e2 => by rw [e1, e2]
  obtain ⟨S, hS⟩ : ∃ S, S = ownT a (1 + p) := ⟨_, rfl⟩
  obtain ⟨T, hT⟩ : ∃ T, T = ownT b (1 + q) := ⟨_, rfl⟩
  rw [← hS] at C1 hat inj same
  rw [← hT] at inj same
  have C2' : ∀ wr, Below w.heap.size w wr → Calls Tryd.prog 19 #[.string b, .int .i64 (1 + q)] wr fun e w' => e = .returned (.string T) ∧ Below wr.heap.size wr w' := fun wr h => by rw [hT]; exact C2 wr h
  clear hS hT C2
  have MM : ∀ wr, Calls Tryd.prog 13 #[.agg #[.string ⟨#[]⟩, .int .i64 0, .int .i64 0, .int .i64 0, .slice none 0 0, .slice none 0 0], .agg #[.int .i64 (1 + p), .int .i64 1, .int .i64 0, .string S, .int .i64 0, .slice none 0 0, .string ⟨#[]⟩]] wr fun e w' => e = .returned (.int .i64 0) ∧ Below wr.heap.size wr w' := fun wr => by
    have hm : mmE 0 ⟨1 + p, 1, 0, S, 0, [], ⟨#[]⟩⟩ = 0 := mm_good (n := 0) (m := ⟨1 + p, 1, 0, S, 0, [], ⟨#[]⟩⟩) (inB_true (by show 1 ≤ 1 + p; omega) (by show 1 + p ≤ 999999; omega)) (show inB 1 1 1000000 = true by decide) (show inB 0 0 1000000 = true by decide) hat (show inB 0 0 31 = true by decide) (show keysB [] 0 = true by decide +kernel) (show (⟨#[]⟩ : ByteArray).size ≤ 300 by decide)
    have := mayMsg_cells (bid := ⟨#[]⟩) (bv := 0) (bn := 0) (bh := 0) (WA := none) (MA := none) (wn := 0) (wc := 0) (mn := 0) (mc := 0) (u := 1 + p) (md := 1) (d := 0) (id := S) (fl := 0) (tx := ⟨#[]⟩) (kc := 0) (w := wr) (RowAt.nil intC 1 wr wr.heap.size none) (Nat.le_refl _) (by decide)
    rw [hm] at this
    exact this
  have K1 := Lib.hid C1
  have K2 := Lib.hid C2'
  have K3 := Lib.hid MM
  have h1' : (a.size : Int) ≤ 12 := by omega
  have h2' : (b.size : Int) ≤ 12 := by omega
  have HI := Lib.hid inj
  have HS := Lib.hid same
  clear C1 C2' MM ht hat inj same h1 h2
  by_cases hab : a = b
  · by_cases hpq : p = q
    · have he := HS.out hab hpq
      subst hab hpq he
      go_enter Tryd.func7, Tryd.ntmps7
      go_wp2_with (go_at_call 29; refine (refAtom_any _ _).mono ?_; rintro e w' ⟨rfl, rfl⟩)
      refine K1.out.mono ?_
      rintro e w1 ⟨rfl, hb1⟩
      have B1 := Lib.hid hb1
      clear hb1
      go_wp2_with fail
      refine (K2.out _ B1.out).mono ?_
      rintro e w2 ⟨rfl, hb2⟩
      have B2 := Lib.hid (B1.out.trans (hb2.mono B1.out.size))
      clear hb2
      go_wp2_with fail
      refine (K3.out _).mono ?_
      rintro e w3 ⟨rfl, hb3⟩
      have B3 := Lib.hid (B2.out.trans (hb3.mono B2.out.size))
      clear hb3
      go_wp2_with fail
      refine (HAW.out _ B3.out).mono ?_
      rintro e w4 ⟨rfl, hb4⟩
      go_wp2_with fail
      go_ret
      exact ⟨rfl, B3.out.trans (hb4.mono B3.out.size)⟩
    · have hne := s_ne (a := S) (b := T) (fun e => hpq (HI.out e).2)
      have hpb : (1 + p == 1 + q) = false := by rw [beq_eq_false_iff_ne]; omega
      subst hab
      clear hpq
      go_enter Tryd.func7, Tryd.ntmps7
      go_wp2_with (go_at_call 29; refine (refAtom_any _ _).mono ?_; rintro e w' ⟨rfl, rfl⟩)
      refine K1.out.mono ?_
      rintro e w1 ⟨rfl, hb1⟩
      have B1 := Lib.hid hb1
      clear hb1
      go_wp2_with fail
      refine (K2.out _ B1.out).mono ?_
      rintro e w2 ⟨rfl, hb2⟩
      have B2 := Lib.hid (B1.out.trans (hb2.mono B1.out.size))
      clear hb2
      go_wp2_with fail
      refine (K3.out _).mono ?_
      rintro e w3 ⟨rfl, hb3⟩
      have B3 := Lib.hid (B2.out.trans (hb3.mono B2.out.size))
      clear hb3
      go_wp2_with fail
      refine (HAW.out _ B3.out).mono ?_
      rintro e w4 ⟨rfl, hb4⟩
      go_wp2_with fail
      go_ret
      exact ⟨rfl, B3.out.trans (hb4.mono B3.out.size)⟩
  · have hne := s_ne (a := S) (b := T) (fun e => hab (HI.out e).1)
    have hnb := s_ne hab
    clear hab
    go_enter Tryd.func7, Tryd.ntmps7
    go_wp2_with (go_at_call 29; refine (refAtom_any _ _).mono ?_; rintro e w' ⟨rfl, rfl⟩)
    refine K1.out.mono ?_
    rintro e w1 ⟨rfl, hb1⟩
    have B1 := Lib.hid hb1
    clear hb1
    go_wp2_with fail
    refine (K2.out _ B1.out).mono ?_
    rintro e w2 ⟨rfl, hb2⟩
    have B2 := Lib.hid (B1.out.trans (hb2.mono B1.out.size))
    clear hb2
    go_wp2_with fail
    refine (K3.out _).mono ?_
    rintro e w3 ⟨rfl, hb3⟩
    have B3 := Lib.hid (B2.out.trans (hb3.mono B2.out.size))
    clear hb3
    go_wp2_with fail
    refine (HAW.out _ B3.out).mono ?_
    rintro e w4 ⟨rfl, hb4⟩
    go_wp2_with fail
    go_ret
    exact ⟨rfl, B3.out.trans (hb4.mono B3.out.size)⟩
theorem walk {a b : ByteArray} {x y : Int} {w : World} (ht : Tab w) :
    Calls Tryd.prog 7 #[.string a, .string b, .int .i64 x, .int .i64 y] w fun e w' => e = .returned (.bool true) ∧ Below w.heap.size w w' := by
  by_cases h : atB a = false ∨ atB b = false ∨ 12 < a.size ∨ 12 < b.size
  · exact walk_no ht h
  · simp only [not_or, Bool.not_eq_false, Nat.not_lt] at h
    exact walk_yes ht h.1 h.2.1 h.2.2.1 h.2.2.2
end Go.Proofs.YtabcfhjfdkbhaaaDoor.BxNames
