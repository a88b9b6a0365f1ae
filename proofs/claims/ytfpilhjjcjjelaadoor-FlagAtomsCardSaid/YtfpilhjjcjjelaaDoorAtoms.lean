/-
  FlagAtoms: the walk.
-/
import Derived.Test.YtfpilhjjcjjelaaDoorG
import Derived.Deep.CutBlock
import Derived.Deep.DeepCutAuto
import Derived.Laws.IdiomStrings
namespace Go.Proofs.YtfpilhjjcjjelaaDoor.flagAtoms
open Go.RowKit Go.Proofs.YtfpilhjjcjjelaaDoor.Kit Go.Proofs.YtfpilhjjcjjelaaDoor.A Go.Proofs.YtfpilhjjcjjelaaDoor.B

/-- One byte as a text. -/
def one (c : UInt8) : ByteArray := ⟨#[c]⟩
theorem one_size (c : UInt8) : (one c).size = 1 := rfl
theorem conv (w : World) (c : UInt8) (b : Nat) (hb : b = w.heap.size) :
    (convert 32 9 (.slice (some ⟨b, 0, none⟩) 1 1)).run Tryd.prog (w.alloc (.cells #[.int .u8 (c.toNat : Int)] 5)) = .ok (.string (one c)) (w.alloc (.cells #[.int .u8 (c.toNat : Int)] 5)) := by
  subst hb
  exact run_convert_bytes_back (P := Tryd.prog) (w.alloc (.cells #[.int .u8 (c.toNat : Int)] 5)) 32 9 5 ⟨w.heap.size, 0, none⟩ 1 [c] Tryd.underlying32 Tryd.underlying5 Tryd.underlying9
    (fun j hj => by
      have : j = 0 := by simpa using hj
      subst this
      simp [Addr.add])

theorem atB_def (s : ByteArray) : atB s = (decide (1 ≤ s.size) && decide (s.size ≤ 24) && s.data.toList.all atC) := rfl
theorem atB_true {s : ByteArray} (h : atB s = true) : 1 ≤ s.size ∧ s.size ≤ 24 ∧ s.data.toList.all atC = true := by
  rw [atB_def] at h
  simp only [Bool.and_eq_true, decide_eq_true_eq] at h
  exact ⟨h.1.1, h.1.2, h.2⟩
theorem atB_one (c : UInt8) : atB (one c) = atC c := by
  rw [atB_def, one_size]
  simp [one]
theorem atB_two {a b : ByteArray} (ha : atB a = true) (hb : atB b = true) : atB (a ++ b) = decide (a.size + b.size ≤ 24) := by
  obtain ⟨a1, a2, a3⟩ := atB_true ha
  obtain ⟨b1, b2, b3⟩ := atB_true hb
  rw [atB_def, ByteArray.size_append, ByteArray.data_append]
  rw [Array.toList_append, List.all_append, a3, b3, decide_eq_true (show 1 ≤ a.size + b.size by omega)]
  simp
theorem atB_mid {a b : ByteArray} (c : UInt8) (ha : atB a = true) (hb : atB b = true) : atB (a ++ one c ++ b) = (atC c && decide (a.size + 1 + b.size ≤ 24)) := by
  obtain ⟨a1, a2, a3⟩ := atB_true ha
  obtain ⟨b1, b2, b3⟩ := atB_true hb
  rw [atB_def, ByteArray.size_append, ByteArray.size_append, ByteArray.data_append, ByteArray.data_append, one_size]
  rw [Array.toList_append, Array.toList_append, List.all_append, List.all_append, a3, b3, decide_eq_true (show 1 ≤ a.size + 1 + b.size by omega)]
  simp [one, Bool.and_comm]

/-- The twelve kinds of bytes that the law's own test tells apart. -/
inductive Kind (c : UInt8) : Prop
  | low (h : atC c = true) (h1 : 97 ≤ (c.toNat : Int)) (h2 : (c.toNat : Int) ≤ 122)
  | great (h : atC c = true) (h1 : 65 ≤ (c.toNat : Int)) (h2 : (c.toNat : Int) ≤ 90)
  | digit (h : atC c = true) (h1 : 48 ≤ (c.toNat : Int)) (h2 : (c.toNat : Int) ≤ 57)
  | dot (h : atC c = true) (h1 : (c.toNat : Int) < 48) (e1 : ((c.toNat : Int) == 46) = true)
  | line (h : atC c = true) (h1 : 90 < (c.toNat : Int)) (h2 : (c.toNat : Int) < 97) (e1 : ((c.toNat : Int) == 46) = false) (e2 : ((c.toNat : Int) == 95) = true)
  | dash (h : atC c = true) (h1 : (c.toNat : Int) < 48) (e1 : ((c.toNat : Int) == 46) = false) (e2 : ((c.toNat : Int) == 95) = false) (e3 : ((c.toNat : Int) == 45) = true)
  | dollar (h : atC c = true) (h1 : (c.toNat : Int) < 48) (e1 : ((c.toNat : Int) == 46) = false) (e2 : ((c.toNat : Int) == 95) = false) (e3 : ((c.toNat : Int) == 45) = false) (e4 : ((c.toNat : Int) == 36) = true)
  | slash (h : atC c = true) (h1 : (c.toNat : Int) < 48) (e1 : ((c.toNat : Int) == 46) = false) (e2 : ((c.toNat : Int) == 95) = false) (e3 : ((c.toNat : Int) == 45) = false) (e4 : ((c.toNat : Int) == 36) = false) (e5 : ((c.toNat : Int) == 47) = true)
  | other1 (h : atC c = false) (h1 : (c.toNat : Int) < 48) (e1 : ((c.toNat : Int) == 46) = false) (e2 : ((c.toNat : Int) == 95) = false) (e3 : ((c.toNat : Int) == 45) = false) (e4 : ((c.toNat : Int) == 36) = false) (e5 : ((c.toNat : Int) == 47) = false)
  | other2 (h : atC c = false) (h1 : 57 < (c.toNat : Int)) (h2 : (c.toNat : Int) < 65) (e1 : ((c.toNat : Int) == 46) = false) (e2 : ((c.toNat : Int) == 95) = false) (e3 : ((c.toNat : Int) == 45) = false) (e4 : ((c.toNat : Int) == 36) = false) (e5 : ((c.toNat : Int) == 47) = false)
  | other3 (h : atC c = false) (h1 : 90 < (c.toNat : Int)) (h2 : (c.toNat : Int) < 97) (e1 : ((c.toNat : Int) == 46) = false) (e2 : ((c.toNat : Int) == 95) = false) (e3 : ((c.toNat : Int) == 45) = false) (e4 : ((c.toNat : Int) == 36) = false) (e5 : ((c.toNat : Int) == 47) = false)
  | other4 (h : atC c = false) (h1 : 122 < (c.toNat : Int)) (e1 : ((c.toNat : Int) == 46) = false) (e2 : ((c.toNat : Int) == 95) = false) (e3 : ((c.toNat : Int) == 45) = false) (e4 : ((c.toNat : Int) == 36) = false) (e5 : ((c.toNat : Int) == 47) = false)
theorem byte_eq {c : UInt8} {n : Nat} (h : c.toNat = n) (hn : n < 256) : c = UInt8.ofNat n := by
  apply UInt8.toNat_inj.1
  rw [h, UInt8.toNat_ofNat', Nat.mod_eq_of_lt hn]
theorem atC_let {c : UInt8} (h : (97 ≤ c.toNat ∧ c.toNat ≤ 122) ∨ (65 ≤ c.toNat ∧ c.toNat ≤ 90) ∨ (48 ≤ c.toNat ∧ c.toNat ≤ 57)) : atC c = true := by
  unfold atC; simp only [Bool.or_eq_true, Bool.and_eq_true, decide_eq_true_eq]; omega
theorem atC_none {c : UInt8} (h1 : ¬ (97 ≤ c.toNat ∧ c.toNat ≤ 122)) (h2 : ¬ (65 ≤ c.toNat ∧ c.toNat ≤ 90)) (h3 : ¬ (48 ≤ c.toNat ∧ c.toNat ≤ 57))
    (e1 : c.toNat ≠ 46) (e2 : c.toNat ≠ 95) (e3 : c.toNat ≠ 45) (e4 : c.toNat ≠ 36) (e5 : c.toNat ≠ 47) : atC c = false := by
  have ne : ∀ {d : UInt8}, c.toNat ≠ d.toNat → (c == d) = false := fun {d} h => by
    rw [beq_eq_false_iff_ne]; intro e; exact h (by rw [e])
  unfold atC signs
  simp only [List.contains_cons, List.contains_nil]
  rw [ne (d := 46) e1, ne (d := 95) e2, ne (d := 45) e3, ne (d := 36) e4, ne (d := 47) e5]
  simp only [Bool.or_false, Bool.or_eq_false_iff, Bool.and_eq_false_iff, decide_eq_false_iff_not]
  omega
theorem kind (c : UInt8) : Kind c := by
  have t : ∀ {n : Nat}, c.toNat = n → ((c.toNat : Int) == (n : Int)) = true := fun {n} h => by rw [h]; simp
  have f : ∀ {n : Nat}, c.toNat ≠ n → ((c.toNat : Int) == (n : Int)) = false := fun {n} h => by
    rw [beq_eq_false_iff_ne]; intro e; exact h (by omega)
  by_cases h1 : 97 ≤ c.toNat ∧ c.toNat ≤ 122
  · exact .low (atC_let (.inl h1)) (by omega) (by omega)
  by_cases h2 : 65 ≤ c.toNat ∧ c.toNat ≤ 90
  · exact .great (atC_let (.inr (.inl h2))) (by omega) (by omega)
  by_cases h3 : 48 ≤ c.toNat ∧ c.toNat ≤ 57
  · exact .digit (atC_let (.inr (.inr h3))) (by omega) (by omega)
  by_cases e1 : c.toNat = 46
  · exact .dot (by rw [byte_eq e1 (by decide)]; decide) (by omega) (t e1)
  by_cases e2 : c.toNat = 95
  · exact .line (by rw [byte_eq e2 (by decide)]; decide) (by omega) (by omega) (f e1) (t e2)
  by_cases e3 : c.toNat = 45
  · exact .dash (by rw [byte_eq e3 (by decide)]; decide) (by omega) (f e1) (f e2) (t e3)
  by_cases e4 : c.toNat = 36
  · exact .dollar (by rw [byte_eq e4 (by decide)]; decide) (by omega) (f e1) (f e2) (f e3) (t e4)
  by_cases e5 : c.toNat = 47
  · exact .slash (by rw [byte_eq e5 (by decide)]; decide) (by omega) (f e1) (f e2) (f e3) (f e4) (t e5)
  have hno := atC_none h1 h2 h3 e1 e2 e3 e4 e5
  by_cases g1 : c.toNat < 48
  · exact .other1 hno (by omega) (f e1) (f e2) (f e3) (f e4) (f e5)
  by_cases g2 : c.toNat < 65
  · exact .other2 hno (by omega) (by omega) (f e1) (f e2) (f e3) (f e4) (f e5)
  by_cases g3 : c.toNat < 97
  · exact .other3 hno (by omega) (by omega) (f e1) (f e2) (f e3) (f e4) (f e5)
  · exact .other4 hno (by omega) (f e1) (f e2) (f e3) (f e4) (f e5)

def Yes (w : World) (e : Ending) (w' : World) : Prop := e = .returned (.bool true) ∧ Below w.heap.size w w'
theorem names_alloc {w : World} (h : Names w) (o : Obj) : Names (w.alloc o) := h.below ((Below.refl w.heap.size w).alloc (Nat.le_refl _) o) h.size

set_option maxHeartbeats 4000000 in
set_option maxRecDepth 100000 in
theorem walk_no (a b : ByteArray) (c : UInt8) (w : World) (hn : Names w) (ha : a.size ≤ 100) (hb : b.size ≤ 100) (hA : atB a = false) :
    Calls Tryd.prog 6 #[.string a, .string b, .int .u8 (c.toNat : Int)] w (Yes w) := by
  have ha' : (a.size : Int) ≤ 100 := by omega
  have hb' : (b.size : Int) ≤ 100 := by omega
  have HN := Lib.hid hn
  have h1 := one_size c
  have hc0 : (0 : Int) ≤ c.toNat := by omega
  have hcv := conv w c w.heap.size rfl
  have hO := atB_one c
  clear hn ha hb
  go_enter Tryd.func6, Tryd.ntmps6
  go_upto_region 7 with (go_at_call 14; refine (atom_any _ _).mono ?_; rintro e w' ⟨rfl, rfl⟩)
  go_cut [9] (fun s9 wx => s9 = .bool (atC c) ∧ Hid (Below w.heap.size w wx))
  case first =>
    clear hcv h1 hO 
    rcases kind c with ⟨h, _, _⟩ | ⟨h, _, _⟩ | ⟨h, _, _⟩ | ⟨h, _, _⟩ | ⟨h, _, _, _, _⟩ | ⟨h, _, _, _, _⟩ | ⟨h, _, _, _, _, _⟩ | ⟨h, _, _, _, _, _, _⟩ | ⟨h, _, _, _, _, _, _⟩ | ⟨h, _, _, _, _, _, _, _⟩ | ⟨h, _, _, _, _, _, _, _⟩ | ⟨h, _, _, _, _, _, _⟩
    all_goals
      have HC := Lib.hid h
      clear h
      go_wp2_with fail
      go_meet
      refine ⟨?_, (Below.refl _ _).alloc (Nat.le_refl _) _⟩
      first | (rw [HC.out]; done) | (rw [HC.out]; congr 1; simp; omega)
  case rest =>
    obtain ⟨rfl, HB⟩ := hcut
    have hcv2 := conv wc c wc.heap.size rfl
    have HAW := Lib.hid (G.awake _ (names_alloc (HN.out.below HB.out HN.out.size) (.cells #[.int .u8 (c.toNat : Int)] 5)))
    cases hC : atC c
    all_goals
      rw [hC] at hO
      go_wp2_with (first
        | (go_at_call 14; refine (atom_any _ _).mono ?_; rintro e w' ⟨rfl, rfl⟩)
        | (go_at_call 8; refine HAW.out.mono ?_; rintro e w' ⟨rfl, hb9⟩))
      go_ret
      refine ⟨?_, (HB.out.alloc HB.out.size _).trans (hb9.mono (by have := HB.out.size; simp; omega))⟩
      first | rfl | exact ret_bool (by simp; omega)

set_option maxHeartbeats 4000000 in
set_option maxRecDepth 100000 in
theorem walk_half (a b : ByteArray) (c : UInt8) (w : World) (hn : Names w) (ha : a.size ≤ 100) (hb : b.size ≤ 100) (hA : atB a = true) (hB : atB b = false) :
    Calls Tryd.prog 6 #[.string a, .string b, .int .u8 (c.toNat : Int)] w (Yes w) := by
  have ha' : (a.size : Int) ≤ 100 := by omega
  have hb' : (b.size : Int) ≤ 100 := by omega
  have HN := Lib.hid hn
  have h1 := one_size c
  have hc0 : (0 : Int) ≤ c.toNat := by omega
  have hcv := conv w c w.heap.size rfl
  have hO := atB_one c
  clear hn ha hb
  go_enter Tryd.func6, Tryd.ntmps6
  go_upto_region 7 with (go_at_call 14; refine (atom_any _ _).mono ?_; rintro e w' ⟨rfl, rfl⟩)
  go_cut [9] (fun s9 wx => s9 = .bool (atC c) ∧ Hid (Below w.heap.size w wx))
  case first =>
    clear hcv h1 hO 
    rcases kind c with ⟨h, _, _⟩ | ⟨h, _, _⟩ | ⟨h, _, _⟩ | ⟨h, _, _⟩ | ⟨h, _, _, _, _⟩ | ⟨h, _, _, _, _⟩ | ⟨h, _, _, _, _, _⟩ | ⟨h, _, _, _, _, _, _⟩ | ⟨h, _, _, _, _, _, _⟩ | ⟨h, _, _, _, _, _, _, _⟩ | ⟨h, _, _, _, _, _, _, _⟩ | ⟨h, _, _, _, _, _, _⟩
    all_goals
      have HC := Lib.hid h
      clear h
      go_wp2_with fail
      go_meet
      refine ⟨?_, (Below.refl _ _).alloc (Nat.le_refl _) _⟩
      first | (rw [HC.out]; done) | (rw [HC.out]; congr 1; simp; omega)
  case rest =>
    obtain ⟨rfl, HB⟩ := hcut
    have hcv2 := conv wc c wc.heap.size rfl
    have HAW := Lib.hid (G.awake _ (names_alloc (HN.out.below HB.out HN.out.size) (.cells #[.int .u8 (c.toNat : Int)] 5)))
    cases hC : atC c
    all_goals
      rw [hC] at hO
      go_wp2_with (first
        | (go_at_call 14; refine (atom_any _ _).mono ?_; rintro e w' ⟨rfl, rfl⟩)
        | (go_at_call 8; refine HAW.out.mono ?_; rintro e w' ⟨rfl, hb9⟩))
      go_ret
      refine ⟨?_, (HB.out.alloc HB.out.size _).trans (hb9.mono (by have := HB.out.size; simp; omega))⟩
      first | rfl | exact ret_bool (by simp; omega)

set_option maxHeartbeats 4000000 in
set_option maxRecDepth 100000 in
theorem walk_short (a b : ByteArray) (c : UInt8) (w : World) (hn : Names w) (ha : a.size ≤ 100) (hb : b.size ≤ 100) (hA : atB a = true) (hB : atB b = true) (hl : a.size + 1 + b.size ≤ 24) :
    Calls Tryd.prog 6 #[.string a, .string b, .int .u8 (c.toNat : Int)] w (Yes w) := by
  have ha' : (a.size : Int) ≤ 100 := by omega
  have hb' : (b.size : Int) ≤ 100 := by omega
  have HN := Lib.hid hn
  have h1 := one_size c
  have hc0 : (0 : Int) ≤ c.toNat := by omega
  have hcv := conv w c w.heap.size rfl
  have hO := atB_one c
  have h2 := atB_two hA hB
  have hm := atB_mid c hA hB
  rw [decide_eq_true (show (a.size + b.size ≤ 24) by omega)] at h2
  rw [decide_eq_true (show (a.size + 1 + b.size ≤ 24) by omega)] at hm
  have l1 : (a.size : Int) + b.size ≤ 24 := by omega
  have l2 : (a.size : Int) + 1 + b.size ≤ 24 := by omega
  clear hl
  clear hn ha hb
  go_enter Tryd.func6, Tryd.ntmps6
  go_upto_region 7 with (go_at_call 14; refine (atom_any _ _).mono ?_; rintro e w' ⟨rfl, rfl⟩)
  go_cut [9] (fun s9 wx => s9 = .bool (atC c) ∧ Hid (Below w.heap.size w wx))
  case first =>
    clear hcv h1 hO hA hB h2 hm l1 l2
    rcases kind c with ⟨h, _, _⟩ | ⟨h, _, _⟩ | ⟨h, _, _⟩ | ⟨h, _, _⟩ | ⟨h, _, _, _, _⟩ | ⟨h, _, _, _, _⟩ | ⟨h, _, _, _, _, _⟩ | ⟨h, _, _, _, _, _, _⟩ | ⟨h, _, _, _, _, _, _⟩ | ⟨h, _, _, _, _, _, _, _⟩ | ⟨h, _, _, _, _, _, _, _⟩ | ⟨h, _, _, _, _, _, _⟩
    all_goals
      have HC := Lib.hid h
      clear h
      go_wp2_with fail
      go_meet
      refine ⟨?_, (Below.refl _ _).alloc (Nat.le_refl _) _⟩
      first | (rw [HC.out]; done) | (rw [HC.out]; congr 1; simp; omega)
  case rest =>
    obtain ⟨rfl, HB⟩ := hcut
    have hcv2 := conv wc c wc.heap.size rfl
    have HAW := Lib.hid (G.awake _ (names_alloc (HN.out.below HB.out HN.out.size) (.cells #[.int .u8 (c.toNat : Int)] 5)))
    cases hC : atC c
    all_goals
      rw [hC] at hO
      rw [hC] at hm
      go_wp2_with (first
        | (go_at_call 14; refine (atom_any _ _).mono ?_; rintro e w' ⟨rfl, rfl⟩)
        | (go_at_call 8; refine HAW.out.mono ?_; rintro e w' ⟨rfl, hb9⟩))
      go_ret
      refine ⟨?_, (HB.out.alloc HB.out.size _).trans (hb9.mono (by have := HB.out.size; simp; omega))⟩
      first | rfl | exact ret_bool (by simp; omega)

set_option maxHeartbeats 4000000 in
set_option maxRecDepth 100000 in
theorem walk_edge (a b : ByteArray) (c : UInt8) (w : World) (hn : Names w) (ha : a.size ≤ 100) (hb : b.size ≤ 100) (hA : atB a = true) (hB : atB b = true) (hl : a.size + b.size = 24) :
    Calls Tryd.prog 6 #[.string a, .string b, .int .u8 (c.toNat : Int)] w (Yes w) := by
  have ha' : (a.size : Int) ≤ 100 := by omega
  have hb' : (b.size : Int) ≤ 100 := by omega
  have HN := Lib.hid hn
  have h1 := one_size c
  have hc0 : (0 : Int) ≤ c.toNat := by omega
  have hcv := conv w c w.heap.size rfl
  have hO := atB_one c
  have h2 := atB_two hA hB
  have hm := atB_mid c hA hB
  rw [decide_eq_true (show (a.size + b.size ≤ 24) by omega)] at h2
  rw [decide_eq_false (show ¬ (a.size + 1 + b.size ≤ 24) by omega)] at hm
  have l1 : (a.size : Int) + b.size ≤ 24 := by omega
  have l2 : 24 < (a.size : Int) + 1 + b.size := by omega
  clear hl
  clear hn ha hb
  go_enter Tryd.func6, Tryd.ntmps6
  go_upto_region 7 with (go_at_call 14; refine (atom_any _ _).mono ?_; rintro e w' ⟨rfl, rfl⟩)
  go_cut [9] (fun s9 wx => s9 = .bool (atC c) ∧ Hid (Below w.heap.size w wx))
  case first =>
    clear hcv h1 hO hA hB h2 hm l1 l2
    rcases kind c with ⟨h, _, _⟩ | ⟨h, _, _⟩ | ⟨h, _, _⟩ | ⟨h, _, _⟩ | ⟨h, _, _, _, _⟩ | ⟨h, _, _, _, _⟩ | ⟨h, _, _, _, _, _⟩ | ⟨h, _, _, _, _, _, _⟩ | ⟨h, _, _, _, _, _, _⟩ | ⟨h, _, _, _, _, _, _, _⟩ | ⟨h, _, _, _, _, _, _, _⟩ | ⟨h, _, _, _, _, _, _⟩
    all_goals
      have HC := Lib.hid h
      clear h
      go_wp2_with fail
      go_meet
      refine ⟨?_, (Below.refl _ _).alloc (Nat.le_refl _) _⟩
      first | (rw [HC.out]; done) | (rw [HC.out]; congr 1; simp; omega)
  case rest =>
    obtain ⟨rfl, HB⟩ := hcut
    have hcv2 := conv wc c wc.heap.size rfl
    have HAW := Lib.hid (G.awake _ (names_alloc (HN.out.below HB.out HN.out.size) (.cells #[.int .u8 (c.toNat : Int)] 5)))
    cases hC : atC c
    all_goals
      rw [hC] at hO
      rw [hC] at hm
      go_wp2_with (first
        | (go_at_call 14; refine (atom_any _ _).mono ?_; rintro e w' ⟨rfl, rfl⟩)
        | (go_at_call 8; refine HAW.out.mono ?_; rintro e w' ⟨rfl, hb9⟩))
      go_ret
      refine ⟨?_, (HB.out.alloc HB.out.size _).trans (hb9.mono (by have := HB.out.size; simp; omega))⟩
      first | rfl | exact ret_bool (by simp; omega)

set_option maxHeartbeats 4000000 in
set_option maxRecDepth 100000 in
theorem walk_long (a b : ByteArray) (c : UInt8) (w : World) (hn : Names w) (ha : a.size ≤ 100) (hb : b.size ≤ 100) (hA : atB a = true) (hB : atB b = true) (hl : 24 < a.size + b.size) :
    Calls Tryd.prog 6 #[.string a, .string b, .int .u8 (c.toNat : Int)] w (Yes w) := by
  have ha' : (a.size : Int) ≤ 100 := by omega
  have hb' : (b.size : Int) ≤ 100 := by omega
  have HN := Lib.hid hn
  have h1 := one_size c
  have hc0 : (0 : Int) ≤ c.toNat := by omega
  have hcv := conv w c w.heap.size rfl
  have hO := atB_one c
  have h2 := atB_two hA hB
  have hm := atB_mid c hA hB
  rw [decide_eq_false (show ¬ (a.size + b.size ≤ 24) by omega)] at h2
  rw [decide_eq_false (show ¬ (a.size + 1 + b.size ≤ 24) by omega)] at hm
  have l1 : 24 < (a.size : Int) + b.size := by omega
  have l2 : 24 < (a.size : Int) + 1 + b.size := by omega
  clear hl
  clear hn ha hb
  go_enter Tryd.func6, Tryd.ntmps6
  go_upto_region 7 with (go_at_call 14; refine (atom_any _ _).mono ?_; rintro e w' ⟨rfl, rfl⟩)
  go_cut [9] (fun s9 wx => s9 = .bool (atC c) ∧ Hid (Below w.heap.size w wx))
  case first =>
    clear hcv h1 hO hA hB h2 hm l1 l2
    rcases kind c with ⟨h, _, _⟩ | ⟨h, _, _⟩ | ⟨h, _, _⟩ | ⟨h, _, _⟩ | ⟨h, _, _, _, _⟩ | ⟨h, _, _, _, _⟩ | ⟨h, _, _, _, _, _⟩ | ⟨h, _, _, _, _, _, _⟩ | ⟨h, _, _, _, _, _, _⟩ | ⟨h, _, _, _, _, _, _, _⟩ | ⟨h, _, _, _, _, _, _, _⟩ | ⟨h, _, _, _, _, _, _⟩
    all_goals
      have HC := Lib.hid h
      clear h
      go_wp2_with fail
      go_meet
      refine ⟨?_, (Below.refl _ _).alloc (Nat.le_refl _) _⟩
      first | (rw [HC.out]; done) | (rw [HC.out]; congr 1; simp; omega)
  case rest =>
    obtain ⟨rfl, HB⟩ := hcut
    have hcv2 := conv wc c wc.heap.size rfl
    have HAW := Lib.hid (G.awake _ (names_alloc (HN.out.below HB.out HN.out.size) (.cells #[.int .u8 (c.toNat : Int)] 5)))
    cases hC : atC c
    all_goals
      rw [hC] at hO
      rw [hC] at hm
      go_wp2_with (first
        | (go_at_call 14; refine (atom_any _ _).mono ?_; rintro e w' ⟨rfl, rfl⟩)
        | (go_at_call 8; refine HAW.out.mono ?_; rintro e w' ⟨rfl, hb9⟩))
      go_ret
      refine ⟨?_, (HB.out.alloc HB.out.size _).trans (hb9.mono (by have := HB.out.size; simp; omega))⟩
      first | rfl | exact ret_bool (by simp; omega)

set_option maxHeartbeats 1000000 in
/-- For all texts and every byte. -/
theorem walk (a b : ByteArray) (c : UInt8) (w : World) (hn : Names w) : Calls Tryd.prog 6 #[.string a, .string b, .int .u8 (c.toNat : Int)] w (Yes w) := by
  by_cases ha : a.size ≤ 100
  · by_cases hb : b.size ≤ 100
    · cases hA : atB a with
      | false => exact walk_no a b c w hn ha hb hA
      | true =>
        cases hB : atB b with
        | false => exact walk_half a b c w hn ha hb hA hB
        | true =>
          by_cases h1 : a.size + 1 + b.size ≤ 24
          · exact walk_short a b c w hn ha hb hA hB h1
          · by_cases h2 : a.size + b.size = 24
            · exact walk_edge a b c w hn ha hb hA hB h2
            · exact walk_long a b c w hn ha hb hA hB (by omega)
    · have ha' : (a.size : Int) ≤ 100 := by omega
      have hb' : 100 < (b.size : Int) := by omega
      have HAW := Lib.hid (G.awake w hn)
      clear ha hb hn
      go_enter Tryd.func6, Tryd.ntmps6
      go_wp2_with (go_at_call 8; refine HAW.out.mono ?_; rintro e w' ⟨rfl, hb9⟩)
      go_ret
      exact ⟨rfl, hb9⟩
  · have ha' : 100 < (a.size : Int) := by omega
    have HAW := Lib.hid (G.awake w hn)
    clear ha hn
    go_enter Tryd.func6, Tryd.ntmps6
    go_wp2_with (go_at_call 8; refine HAW.out.mono ?_; rintro e w' ⟨rfl, hb9⟩)
    go_ret
    exact ⟨rfl, hb9⟩
end Go.Proofs.YtfpilhjjcjjelaaDoor.flagAtoms
