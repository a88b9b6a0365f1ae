/-
  What bytes begin with, as the document asks it.
-/
import Derived.Test.YtfhdoecackdflaaDoorOlQp
import Derived.Test.YtfhdoecackdflaaDoorOlOld
import Derived.Deep.RegionHeld3
set_option linter.unusedVariables false
set_option linter.unusedSimpArgs false
namespace Go.Proofs.YtfhdoecackdflaaDoor.OlQb
open Go.Proofs.YtfhdoecackdflaaDoor.PtK
open Go.RowKit Go.Proofs.YtfhdoecackdflaaDoor.BxD Go.Proofs.YtfhdoecackdflaaDoor.PkKit Go.Proofs.YtfhdoecackdflaaDoor.OlD Go.Proofs.YtfhdoecackdflaaDoor.OlQp
open Go.Proofs.YtfhdoecackdflaaDoor.OlR (mkB)

set_option maxHeartbeats 1000000 in
set_option maxRecDepth 100000 in
theorem begins1 {w : World} {B n cp : Nat} {A : Option Addr} {l : List UInt8} (ht : BxO.Tab w) (hz : BytesAt w B A n l) (hB : B ≤ w.heap.size) (hc : n ≤ cp) (hn : n ≤ 140737488355328) :
    Calls Tryd.prog 31 #[.slice A n cp, .int .i64 1] w fun e w' => e = .returned (.bool (decide (l.take 3 = mk false))) ∧ Below w.heap.size w w' := by
  by_cases h3 : n < 3
  · have hd : decide (l.take 3 = mk false) = false := decide_eq_false fun e => by
      have e1 := congrArg List.length e
      rw [List.length_take, hz.1] at e1
      have : (mk false).length = 3 := rfl
      omega
    rw [hd]
    have h3' : ¬ (3 : Int) ≤ (n : Int) := by omega
    have h3b : decide ((3 : Int) ≤ (n : Int)) = false := decide_eq_false h3'
    clear hz hd ht
    go_enter Tryd.func31, Tryd.ntmps31
    go_upto_region 1 with fail
    refine wp_region_noPanic ?_
    refine wp_region_held_drew (S := fun wr => True) (by kernel_rfl) ?_ (fun hHeld => ?_)
    · trivial
    refine wpAnyH_take (i := 0) (v := ?_) rfl (by kernel_rfl) (by kernel_rfl) (by kernel_rfl) (fun _ _ _ h => h) (Or.inl ⟨by rfl, ?_⟩) hHeld ?_
    rotate_left
    · intro wq hSq; (try dsimp only at hSq); go_simp; try with_reducible rfl
    try simp only [Act.put, List.setIfInBounds_toArray, List.set_cons_zero, List.set_cons_succ, List.getElem_toArray, List.getElem_cons_zero, List.getElem_cons_succ]
    refine wpAnyH_take (i := 1) (v := ?_) rfl (by kernel_rfl) (by kernel_rfl) (by kernel_rfl) (fun _ _ _ h => h) (Or.inl ⟨by rfl, ?_⟩) hHeld ?_
    rotate_left
    · intro wq hSq; (try dsimp only at hSq); go_simp; try with_reducible rfl
    try simp only [Act.put, List.setIfInBounds_toArray, List.set_cons_zero, List.set_cons_succ, List.getElem_toArray, List.getElem_cons_zero, List.getElem_cons_succ]
    refine wpAnyH_take (i := 2) (v := ?_) rfl (by kernel_rfl) (by kernel_rfl) (by kernel_rfl) (fun _ _ _ h => h) (Or.inl ⟨by rfl, ?_⟩) hHeld ?_
    rotate_left
    · intro wq hSq; (try dsimp only at hSq); go_simp; try with_reducible rfl
    try simp only [Act.put, List.setIfInBounds_toArray, List.set_cons_zero, List.set_cons_succ, List.getElem_toArray, List.getElem_cons_zero, List.getElem_cons_succ]
    refine wpAnyH_take (i := 3) (v := ?_) rfl (by kernel_rfl) (by kernel_rfl) (by kernel_rfl) (fun _ _ _ h => h) (Or.inl ⟨by rfl, ?_⟩) hHeld ?_
    rotate_left
    · intro wq hSq; (try dsimp only at hSq); go_simp; try with_reducible rfl
    try simp only [Act.put, List.setIfInBounds_toArray, List.set_cons_zero, List.set_cons_succ, List.getElem_toArray, List.getElem_cons_zero, List.getElem_cons_succ]
    refine wpAnyH_take (i := 4) (v := undef) rfl (by kernel_rfl) (by kernel_rfl) (by kernel_rfl) (fun _ _ _ h => h) (Or.inr ⟨by rfl, rfl⟩) hHeld ?_
    try simp only [Act.put, List.setIfInBounds_toArray, List.set_cons_zero, List.set_cons_succ, List.getElem_toArray, List.getElem_cons_zero, List.getElem_cons_succ]
    refine wpAnyH_take (i := 5) (v := undef) rfl (by kernel_rfl) (by kernel_rfl) (by kernel_rfl) (fun _ _ _ h => h) (Or.inr ⟨by rfl, rfl⟩) hHeld ?_
    try simp only [Act.put, List.setIfInBounds_toArray, List.set_cons_zero, List.set_cons_succ, List.getElem_toArray, List.getElem_cons_zero, List.getElem_cons_succ]
    refine wpAnyH_take (i := 6) (v := undef) rfl (by kernel_rfl) (by kernel_rfl) (by kernel_rfl) (fun _ _ _ h => h) (Or.inr ⟨by rfl, rfl⟩) hHeld ?_
    try simp only [Act.put, List.setIfInBounds_toArray, List.set_cons_zero, List.set_cons_succ, List.getElem_toArray, List.getElem_cons_zero, List.getElem_cons_succ]
    refine wpAnyH_take (i := 7) (v := undef) rfl (by kernel_rfl) (by kernel_rfl) (by kernel_rfl) (fun _ _ _ h => h) (Or.inr ⟨by rfl, rfl⟩) hHeld ?_
    try simp only [Act.put, List.setIfInBounds_toArray, List.set_cons_zero, List.set_cons_succ, List.getElem_toArray, List.getElem_cons_zero, List.getElem_cons_succ]
    refine wpAnyH_ready (rs := [8]) (by kernel_rfl) (by simp) ?_
    refine AllReadyH.cons rfl (fun K hK => ?_) AllReadyH.nil
    go_simp; try with_reducible rfl
    refine hK.out _ _ ?_ (fun hHeld => ?_)
    · exact trivial
    clear hK K
    try simp only [Act.put, List.setIfInBounds_toArray, List.set_cons_zero, List.set_cons_succ, List.getElem_toArray, List.getElem_cons_zero, List.getElem_cons_succ]
    refine wpAnyH_take (i := 9) (v := undef) rfl (by kernel_rfl) (by kernel_rfl) (by kernel_rfl) (fun _ _ _ h => h) (Or.inr ⟨by rfl, rfl⟩) hHeld ?_
    try simp only [Act.put, List.setIfInBounds_toArray, List.set_cons_zero, List.set_cons_succ, List.getElem_toArray, List.getElem_cons_zero, List.getElem_cons_succ]
    refine wpAnyH_take (i := 10) (v := undef) rfl (by kernel_rfl) (by kernel_rfl) (by kernel_rfl) (fun _ _ _ h => h) (Or.inr ⟨by rfl, rfl⟩) hHeld ?_
    try simp only [Act.put, List.setIfInBounds_toArray, List.set_cons_zero, List.set_cons_succ, List.getElem_toArray, List.getElem_cons_zero, List.getElem_cons_succ]
    refine wpAnyH_take (i := 11) (v := ?_) rfl (by kernel_rfl) (by kernel_rfl) (by kernel_rfl) (fun _ _ _ h => h) (Or.inl ⟨by rfl, ?_⟩) hHeld ?_
    rotate_left
    · intro wq hSq; (try dsimp only at hSq); go_simp; try with_reducible rfl
    try simp only [Act.put, List.setIfInBounds_toArray, List.set_cons_zero, List.set_cons_succ, List.getElem_toArray, List.getElem_cons_zero, List.getElem_cons_succ]
    refine wpAnyH_take (i := 12) (v := ?_) rfl (by kernel_rfl) (by kernel_rfl) (by kernel_rfl) (fun _ _ _ h => h) (Or.inl ⟨by rfl, ?_⟩) hHeld ?_
    rotate_left
    · intro wq hSq; (try dsimp only at hSq); go_simp; try with_reducible rfl
    try simp only [Act.put, List.setIfInBounds_toArray, List.set_cons_zero, List.set_cons_succ, List.getElem_toArray, List.getElem_cons_zero, List.getElem_cons_succ]
    refine wpAnyH_done (by kernel_rfl) ?_ _
    refine NoPanic.normal ?_
    go_wp2_with fail
    go_ret
    exact ⟨rfl, by first | exact Below.drew (Below.refl _ _) | exact Below.refl _ _⟩
  · have h3' : (3 : Int) ≤ (n : Int) := by omega
    have h3b : decide ((3 : Int) ≤ (n : Int)) = true := decide_eq_true h3'
    have h3c : (3 : Int) ≤ (cp : Int) := by omega
    have h3d : 3 ≤ cp := by omega
    have ht3 := hz.take (k := 3) (by omega)
    have ki := BxO.itoa_max (u := 1) (ht.below (Below.drew (Below.refl _ _)) (Nat.le_refl _)) (by decide)
    rw [show max (1 : Int) 0 = 1 from rfl, OlOld.digs1] at ki
    have KI := Lib.hid (show Calls Tryd.prog 27 #[.int .i64 1] w.drew (fun e w' => e = .returned (.string ⟨#[49]⟩) ∧ Below w.drew.heap.size w.drew w') from ki)
    have hcv : ∀ wr, Below w.heap.size w wr → (convert 26 9 (.slice A 3 cp)).run Tryd.prog wr = .ok (.string ⟨(l.take 3).toArray⟩) wr := fun wr hb => (ht3.below hb hB).conv cp
    have HCV := Lib.hid hcv
    have hcv0 := hcv w.drew (Below.drew (Below.refl _ _))
    have hq : ((⟨(l.take 3).toArray⟩ : ByteArray) == mkB false) = decide (l.take 3 = mk false) := PtK.text_eq
    obtain ⟨T, hT⟩ : ∃ T : ByteArray, T = ⟨(l.take 3).toArray⟩ := ⟨_, rfl⟩
    rw [← hT] at hcv0 HCV hq
    obtain ⟨d, hd⟩ : ∃ d, d = decide (l.take 3 = mk false) := ⟨_, rfl⟩
    rw [← hd] at hq ⊢
    rw [show mkB false = ⟨#[77, 66, 49]⟩ from rfl, beq_toListBytes] at hq
    clear hcv ht3 hz ki hT hd ht
    go_enter Tryd.func31, Tryd.ntmps31
    go_upto_region 1 with fail
    go_region_held3 (fun wr => (convert 26 9 (.slice A 3 cp)).run Tryd.prog wr = .ok (.string T) wr) (with_reducible first | exact hcv0 | exact hcv1 | go_keep) (
      (go_at_call 27; go_loud (
       refine KI.out.mono ?_
       rintro e w1 ⟨rfl, hb1⟩
       have hb2 : Below w.heap.size w w1 := (Below.drew (Below.refl _ _)).trans hb1
       have hcv1 := HCV.out w1 hb2
       have HB2 := Lib.hid hb2
       clear hb1 hb2
       dsimp only)))
    rename_i hHeld
    clear hHeld hcv0 hcv1
    go_wp2_with fail
    go_ret
    exact ⟨by first | rfl | (rw [← hq]; rfl) | (simp [hq]), HB2.out⟩
set_option maxHeartbeats 1000000 in
set_option maxRecDepth 100000 in
theorem begins2 {w : World} {B n cp : Nat} {A : Option Addr} {l : List UInt8} (ht : BxO.Tab w) (hz : BytesAt w B A n l) (hB : B ≤ w.heap.size) (hc : n ≤ cp) (hn : n ≤ 140737488355328) :
    Calls Tryd.prog 31 #[.slice A n cp, .int .i64 2] w fun e w' => e = .returned (.bool (decide (l.take 3 = mk true))) ∧ Below w.heap.size w w' := by
  by_cases h3 : n < 3
  · have hd : decide (l.take 3 = mk true) = false := decide_eq_false fun e => by
      have e1 := congrArg List.length e
      rw [List.length_take, hz.1] at e1
      have : (mk true).length = 3 := rfl
      omega
    rw [hd]
    have h3' : ¬ (3 : Int) ≤ (n : Int) := by omega
    have h3b : decide ((3 : Int) ≤ (n : Int)) = false := decide_eq_false h3'
    clear hz hd ht
    go_enter Tryd.func31, Tryd.ntmps31
    go_upto_region 1 with fail
    refine wp_region_noPanic ?_
    refine wp_region_held_drew (S := fun wr => True) (by kernel_rfl) ?_ (fun hHeld => ?_)
    · trivial
    refine wpAnyH_take (i := 0) (v := ?_) rfl (by kernel_rfl) (by kernel_rfl) (by kernel_rfl) (fun _ _ _ h => h) (Or.inl ⟨by rfl, ?_⟩) hHeld ?_
    rotate_left
    · intro wq hSq; (try dsimp only at hSq); go_simp; try with_reducible rfl
    try simp only [Act.put, List.setIfInBounds_toArray, List.set_cons_zero, List.set_cons_succ, List.getElem_toArray, List.getElem_cons_zero, List.getElem_cons_succ]
    refine wpAnyH_take (i := 1) (v := ?_) rfl (by kernel_rfl) (by kernel_rfl) (by kernel_rfl) (fun _ _ _ h => h) (Or.inl ⟨by rfl, ?_⟩) hHeld ?_
    rotate_left
    · intro wq hSq; (try dsimp only at hSq); go_simp; try with_reducible rfl
    try simp only [Act.put, List.setIfInBounds_toArray, List.set_cons_zero, List.set_cons_succ, List.getElem_toArray, List.getElem_cons_zero, List.getElem_cons_succ]
    refine wpAnyH_take (i := 2) (v := ?_) rfl (by kernel_rfl) (by kernel_rfl) (by kernel_rfl) (fun _ _ _ h => h) (Or.inl ⟨by rfl, ?_⟩) hHeld ?_
    rotate_left
    · intro wq hSq; (try dsimp only at hSq); go_simp; try with_reducible rfl
    try simp only [Act.put, List.setIfInBounds_toArray, List.set_cons_zero, List.set_cons_succ, List.getElem_toArray, List.getElem_cons_zero, List.getElem_cons_succ]
    refine wpAnyH_take (i := 3) (v := ?_) rfl (by kernel_rfl) (by kernel_rfl) (by kernel_rfl) (fun _ _ _ h => h) (Or.inl ⟨by rfl, ?_⟩) hHeld ?_
    rotate_left
    · intro wq hSq; (try dsimp only at hSq); go_simp; try with_reducible rfl
    try simp only [Act.put, List.setIfInBounds_toArray, List.set_cons_zero, List.set_cons_succ, List.getElem_toArray, List.getElem_cons_zero, List.getElem_cons_succ]
    refine wpAnyH_take (i := 4) (v := undef) rfl (by kernel_rfl) (by kernel_rfl) (by kernel_rfl) (fun _ _ _ h => h) (Or.inr ⟨by rfl, rfl⟩) hHeld ?_
    try simp only [Act.put, List.setIfInBounds_toArray, List.set_cons_zero, List.set_cons_succ, List.getElem_toArray, List.getElem_cons_zero, List.getElem_cons_succ]
    refine wpAnyH_take (i := 5) (v := undef) rfl (by kernel_rfl) (by kernel_rfl) (by kernel_rfl) (fun _ _ _ h => h) (Or.inr ⟨by rfl, rfl⟩) hHeld ?_
    try simp only [Act.put, List.setIfInBounds_toArray, List.set_cons_zero, List.set_cons_succ, List.getElem_toArray, List.getElem_cons_zero, List.getElem_cons_succ]
    refine wpAnyH_take (i := 6) (v := undef) rfl (by kernel_rfl) (by kernel_rfl) (by kernel_rfl) (fun _ _ _ h => h) (Or.inr ⟨by rfl, rfl⟩) hHeld ?_
    try simp only [Act.put, List.setIfInBounds_toArray, List.set_cons_zero, List.set_cons_succ, List.getElem_toArray, List.getElem_cons_zero, List.getElem_cons_succ]
    refine wpAnyH_take (i := 7) (v := undef) rfl (by kernel_rfl) (by kernel_rfl) (by kernel_rfl) (fun _ _ _ h => h) (Or.inr ⟨by rfl, rfl⟩) hHeld ?_
    try simp only [Act.put, List.setIfInBounds_toArray, List.set_cons_zero, List.set_cons_succ, List.getElem_toArray, List.getElem_cons_zero, List.getElem_cons_succ]
    refine wpAnyH_ready (rs := [8]) (by kernel_rfl) (by simp) ?_
    refine AllReadyH.cons rfl (fun K hK => ?_) AllReadyH.nil
    go_simp; try with_reducible rfl
    refine hK.out _ _ ?_ (fun hHeld => ?_)
    · exact trivial
    clear hK K
    try simp only [Act.put, List.setIfInBounds_toArray, List.set_cons_zero, List.set_cons_succ, List.getElem_toArray, List.getElem_cons_zero, List.getElem_cons_succ]
    refine wpAnyH_take (i := 9) (v := undef) rfl (by kernel_rfl) (by kernel_rfl) (by kernel_rfl) (fun _ _ _ h => h) (Or.inr ⟨by rfl, rfl⟩) hHeld ?_
    try simp only [Act.put, List.setIfInBounds_toArray, List.set_cons_zero, List.set_cons_succ, List.getElem_toArray, List.getElem_cons_zero, List.getElem_cons_succ]
    refine wpAnyH_take (i := 10) (v := undef) rfl (by kernel_rfl) (by kernel_rfl) (by kernel_rfl) (fun _ _ _ h => h) (Or.inr ⟨by rfl, rfl⟩) hHeld ?_
    try simp only [Act.put, List.setIfInBounds_toArray, List.set_cons_zero, List.set_cons_succ, List.getElem_toArray, List.getElem_cons_zero, List.getElem_cons_succ]
    refine wpAnyH_take (i := 11) (v := ?_) rfl (by kernel_rfl) (by kernel_rfl) (by kernel_rfl) (fun _ _ _ h => h) (Or.inl ⟨by rfl, ?_⟩) hHeld ?_
    rotate_left
    · intro wq hSq; (try dsimp only at hSq); go_simp; try with_reducible rfl
    try simp only [Act.put, List.setIfInBounds_toArray, List.set_cons_zero, List.set_cons_succ, List.getElem_toArray, List.getElem_cons_zero, List.getElem_cons_succ]
    refine wpAnyH_take (i := 12) (v := ?_) rfl (by kernel_rfl) (by kernel_rfl) (by kernel_rfl) (fun _ _ _ h => h) (Or.inl ⟨by rfl, ?_⟩) hHeld ?_
    rotate_left
    · intro wq hSq; (try dsimp only at hSq); go_simp; try with_reducible rfl
    try simp only [Act.put, List.setIfInBounds_toArray, List.set_cons_zero, List.set_cons_succ, List.getElem_toArray, List.getElem_cons_zero, List.getElem_cons_succ]
    refine wpAnyH_done (by kernel_rfl) ?_ _
    refine NoPanic.normal ?_
    go_wp2_with fail
    go_ret
    exact ⟨rfl, by first | exact Below.drew (Below.refl _ _) | exact Below.refl _ _⟩
  · have h3' : (3 : Int) ≤ (n : Int) := by omega
    have h3b : decide ((3 : Int) ≤ (n : Int)) = true := decide_eq_true h3'
    have h3c : (3 : Int) ≤ (cp : Int) := by omega
    have h3d : 3 ≤ cp := by omega
    have ht3 := hz.take (k := 3) (by omega)
    have ki := BxO.itoa_max (u := 2) (ht.below (Below.drew (Below.refl _ _)) (Nat.le_refl _)) (by decide)
    rw [show max (2 : Int) 0 = 2 from rfl, OlOld.digs2] at ki
    have KI := Lib.hid (show Calls Tryd.prog 27 #[.int .i64 2] w.drew (fun e w' => e = .returned (.string ⟨#[50]⟩) ∧ Below w.drew.heap.size w.drew w') from ki)
    have hcv : ∀ wr, Below w.heap.size w wr → (convert 26 9 (.slice A 3 cp)).run Tryd.prog wr = .ok (.string ⟨(l.take 3).toArray⟩) wr := fun wr hb => (ht3.below hb hB).conv cp
    have HCV := Lib.hid hcv
    have hcv0 := hcv w.drew (Below.drew (Below.refl _ _))
    have hq : ((⟨(l.take 3).toArray⟩ : ByteArray) == mkB true) = decide (l.take 3 = mk true) := PtK.text_eq
    obtain ⟨T, hT⟩ : ∃ T : ByteArray, T = ⟨(l.take 3).toArray⟩ := ⟨_, rfl⟩
    rw [← hT] at hcv0 HCV hq
    obtain ⟨d, hd⟩ : ∃ d, d = decide (l.take 3 = mk true) := ⟨_, rfl⟩
    rw [← hd] at hq ⊢
    rw [show mkB true = ⟨#[77, 66, 50]⟩ from rfl, beq_toListBytes] at hq
    clear hcv ht3 hz ki hT hd ht
    go_enter Tryd.func31, Tryd.ntmps31
    go_upto_region 1 with fail
    go_region_held3 (fun wr => (convert 26 9 (.slice A 3 cp)).run Tryd.prog wr = .ok (.string T) wr) (with_reducible first | exact hcv0 | exact hcv1 | go_keep) (
      (go_at_call 27; go_loud (
       refine KI.out.mono ?_
       rintro e w1 ⟨rfl, hb1⟩
       have hb2 : Below w.heap.size w w1 := (Below.drew (Below.refl _ _)).trans hb1
       have hcv1 := HCV.out w1 hb2
       have HB2 := Lib.hid hb2
       clear hb1 hb2
       dsimp only)))
    rename_i hHeld
    clear hHeld hcv0 hcv1
    go_wp2_with fail
    go_ret
    exact ⟨by first | rfl | (rw [← hq]; rfl) | (simp [hq]), HB2.out⟩
end Go.Proofs.YtfhdoecackdflaaDoor.OlQb
