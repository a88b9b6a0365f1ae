/-
  YthbilcadifbaeaaDoorOlQp + YthbilcadifbaeaaDoorOlQb + YthbilcadifbaeaaDoorOlQs
-/
import Derived.Test.YthbilcadifbaeaaDoorOlS
import Derived.Test.YthbilcadifbaeaaDoorOlP
import Derived.Test.YthbilcadifbaeaaDoorOlOld
import Derived.Test.YthbilcadifbaeaaDoorOlX
import Derived.Deep.RegionHeld3
import Derived.Test.YthbilcadifbaeaaDoorOlU
import Derived.Test.YthbilcadifbaeaaDoorRrA
import Derived.Test.YthbilcadifbaeaaDoorOlY
import Derived.Test.YthbilcadifbaeaaDoorO1Pj
namespace Go.Proofs.YthbilcadifbaeaaDoor.OlQp
open Go.RowKit Go.Proofs.YthbilcadifbaeaaDoor.BxD Go.Proofs.YthbilcadifbaeaaDoor.PkC Go.Proofs.YthbilcadifbaeaaDoor.PkD Go.Proofs.YthbilcadifbaeaaDoor.PkF Go.Proofs.YthbilcadifbaeaaDoor.PkG Go.Proofs.YthbilcadifbaeaaDoor.OlD Go.Proofs.YthbilcadifbaeaaDoor.OlR Go.Proofs.YthbilcadifbaeaaDoor.OlS

theorem it_from {α : Type} {f : St → α × St} {P : St → Prop} (hP : ∀ s, P s → P (f s).2) {s : St} {i : Nat} (h : P (itS f i s).2) : ∀ j, P (itS f (i + j) s).2
  | 0 => h
  | j + 1 => hP _ (it_from hP h j)
theorem it_keep {α : Type} {f : St → α × St} {P : St → Prop} (hP : ∀ s, P s → P (f s).2) {s : St} (h : P s) (k : Nat) : P (itS f k s).2 := by
  have := it_from (i := 0) hP (show P (itS f 0 s).2 from h) k
  rwa [Nat.zero_add] at this
theorem cnt_over {m : Nat} {s : St} (h : s.2.2 = true) : (cntS m s).2.2.2 = true := by
  unfold cntS
  split
  · rfl
  · rw [fix_ov]; exact h
theorem byteU_ov (s : St) : (byteU s).2.2.2 = s.2.2 := byte_ov s
theorem str_over {s : St} (h : s.2.2 = true) : (strS s).2.2.2 = true := by
  unfold strS
  show (itS byteU (cntS 300 s).1 (cntS 300 s).2).2.2.2 = true
  rw [itU_ov]
  exact cnt_over h
theorem msg_end (cg : Bool) (id : ByteArray) (s : St) : (msgS cg id s).2 = (strS (fixS (byteS (fixS (chS cg (fixS s).2).2).2).2).2).2 := OlP.msgS_end id s
theorem msg_over {cg : Bool} {id : ByteArray} {s : St} (h : s.2.2 = true) : (msgS cg id s).2.2.2 = true := by
  rw [msg_end]
  refine str_over ?_
  rw [fix_ov, byte_ov, fix_ov, ch_ov, fix_ov]
  exact h
theorem str_bad {s : St} (h : s.2.1 ≠ 0) : (strS s).2 = s := by
  unfold strS
  rw [cnt_bad 300 h]
  rfl
theorem ch_bad2 {cg : Bool} {s : St} (h : s.2.1 ≠ 0) : (chS cg s).2 = s := by
  cases cg
  · rfl
  · show (fixS s).2 = s
    rw [fix_bad h]
theorem msg_bad {cg : Bool} {id : ByteArray} {s : St} (h : s.2.1 ≠ 0) : (msgS cg id s).2 = s := by
  rw [msg_end]
  have e1 : (fixS s).2 = s := by rw [fix_bad h]
  have e3 : (byteS s).2 = s := by rw [byte_bad h]
  rw [e1, ch_bad2 h, e1, e3, e1, str_bad h]
/-- More than there may be: the error's own. -/
theorem fix_pos {m : Nat} {s : St} (h : m < (fixS s).1) : (fixS s).2.2.1 = 0 := by
  revert h
  unfold fixS
  split
  · intro h; exact absurd h (Nat.not_lt_zero m)
  · split
    · intro h; exact absurd h (Nat.not_lt_zero m)
    · intro _; rfl
theorem fix_err {s : St} (h : (fixS s).2.2.1 ≠ 0) : (fixS s).1 = 0 := by
  rcases Nat.eq_zero_or_pos (fixS s).1 with e | e
  · exact e
  · exact absurd (fix_pos e) h
theorem bytes_take {l : List UInt8} {k : Nat} (h : k ≤ l.length) (ov : Bool) : itS byteU k (l, 0, ov) = (l.take k, (l.drop k, 0, ov)) := by
  have hl : (l.take k).length = k := by rw [List.length_take]; omega
  have := bytes_good (l.take k) (l.drop k) ov
  rwa [List.take_append_drop, hl] at this
theorem bytes_out {l : List UInt8} {k : Nat} (h : l.length < k) (ov : Bool) : (itS byteU k (l, 0, ov)).2.2 = (2, ov) := by
  obtain ⟨j, rfl⟩ : ∃ j, k = (l.length + 1) + j := ⟨k - (l.length + 1), by omega⟩
  have h1 : (itS byteU (l.length + 1) (l, 0, ov)).2 = ([], 2, ov) := by
    show (byteS (itS byteU l.length (l, 0, ov)).2).2 = _
    rw [bytes_take (Nat.le_refl _), List.drop_length]
    rfl
  have := it_from (f := byteU) (P := fun s => s.2 = (2, ov)) (fun s hs => by
    show (byteS s).2.2 = (2, ov)
    rw [byte_bad (by rw [hs]; exact Nat.succ_ne_zero 1)]
    exact hs) (s := (l, 0, ov)) (i := l.length + 1) (by rw [h1]) j
  exact this
/-- A text: over, bad, cut short, whole. -/
theorem str_a {s : St} (h : 300 < (fixS s).1) : (strS s).2.2.2 = true := by
  unfold strS
  have : cntS 300 s = (0, ((fixS s).2.1, (fixS s).2.2.1, true)) := by unfold cntS; rw [if_pos h]
  rw [this]
  rfl
theorem str_b {s : St} (h : (fixS s).2.2.1 ≠ 0) : (strS s).2 = (fixS s).2 := by
  unfold strS
  have e : cntS 300 s = (0, (fixS s).2) := by
    unfold cntS
    rw [fix_err h, if_neg (by decide)]
    have := fix_err h
    rw [← this]
  rw [e]
  rfl
theorem str_cnt {s : St} (h : (fixS s).1 ≤ 300) : cntS 300 s = fixS s := by unfold cntS; rw [if_neg (by omega)]
theorem str_c {s : St} {l : List UInt8} {k : Nat} {ov : Bool} (h0 : fixS s = (k, (l, 0, ov))) (h : k ≤ 300) (h2 : l.length < k) : (strS s).2.2 = (2, ov) := by
  unfold strS
  rw [str_cnt (by rw [h0]; exact h), h0]
  exact bytes_out h2 ov
theorem str_d {s : St} {l : List UInt8} {k : Nat} {ov : Bool} (h0 : fixS s = (k, (l, 0, ov))) (h : k ≤ 300) (h2 : k ≤ l.length) : strS s = (⟨(l.take k).toArray⟩, (l.drop k, 0, ov)) := by
  unfold strS
  rw [str_cnt (by rw [h0]; exact h), h0]
  simp only [bytes_take h2 ov]
theorem words_over {s : St} (h : s.2.2 = true) (k : Nat) : (itS (txtS 24) k s).2.2.2 = true :=
  it_keep (f := txtS 24) (P := fun s => s.2.2 = true) (fun s hs => (txt_ov 24 s).trans hs) h k
theorem msgs_over {cg : Bool} {id : ByteArray} {s : St} (h : s.2.2 = true) (k : Nat) : (itS (msgS cg id) k s).2.2.2 = true :=
  it_keep (f := msgS cg id) (P := fun s => s.2.2 = true) (fun _ hs => msg_over hs) h k
theorem cnt_more {m : Nat} {s : St} (h : m < (fixS s).1) : cntS m s = (0, ((fixS s).2.1, (fixS s).2.2.1, true)) := by unfold cntS; rw [if_pos h]
theorem cnt_fit {m : Nat} {s : St} (h : (fixS s).1 ≤ m) : cntS m s = fixS s := by unfold cntS; rw [if_neg (by omega)]
theorem box_over1 {cg : Bool} {id : ByteArray} {s : St} (h : 32 < (fixS (chS cg (fixS (fixS s).2).2).2).1) : (boxS cg id s).2.2.2 = true := by
  rw [OlP.boxS_end]
  refine msgs_over (cnt_over (words_over ?_ _)) _
  rw [cnt_more h]
theorem box_over2 {cg : Bool} {id : ByteArray} {s4 : St} (h : 60 < (fixS s4).1) : (itS (msgS cg id) (cntS 60 s4).1 (cntS 60 s4).2).2.2.2 = true := by
  refine msgs_over ?_ _
  rw [cnt_more h]
theorem shr_bit {M : Nat} (hM : M < 4294967296) (j : Nat) : (bits .and .i64 ((M : Int) / 2 ^ j) 1 == 1) = M.testBit j := by
  have e : (M : Int) / 2 ^ j = ((M / 2 ^ j : Nat) : Int) := by
    rw [Int.natCast_ediv]
    congr 1
  have hle : M / 2 ^ j < 2 ^ 62 := Nat.lt_of_le_of_lt (Nat.div_le_self _ _) (by omega)
  have hb := (bits_nat .i64 62 (by decide) PkE.i64_small (M / 2 ^ j) 1 hle (by decide)).1
  have h1 : (M / 2 ^ j) &&& 1 = if M.testBit j then 1 else 0 := by
    rw [Nat.and_one_is_mod, Nat.testBit_eq_decide_div_mod_eq]
    by_cases h : M / 2 ^ j % 2 = 1
    · simp [h]
    · have : M / 2 ^ j % 2 = 0 := by omega
      simp [this]
  rw [e]
  rw [show ((1 : Nat) : Int) = 1 from rfl] at hb
  rw [hb, h1]
  cases M.testBit j <;> rfl
/-! What is told, where the end is over or bad. -/
section
variable {cg : Bool} {l : List UInt8} {id : ByteArray} {s : St} {b : Box}
theorem parse_over (hb : l.take 3 = mk cg) (hx : (boxS cg id (l.drop 3, 0, false)).2 = s) (h : s.2.2 = true) : parseS cg l id = (nB, 3) := by
  have : firstS s = 3 := by unfold firstS; rw [h]; rfl
  unfold parseS
  rw [if_pos hb, hx, this, if_pos (by decide)]
  rfl
theorem parse_bad (hb : l.take 3 = mk cg) (hx : (boxS cg id (l.drop 3, 0, false)).2 = s) (h : s.2.1 ≠ 0) (ho : s.2.2 = false) : parseS cg l id = (nB, (s.2.1 : Int)) := by
  have : firstS s = s.2.1 := by unfold firstS; rw [ho]; rfl
  unfold parseS
  rw [if_pos hb, hx, this, if_pos h]
theorem parse_rest (hb : l.take 3 = mk cg) (hx : boxS cg id (l.drop 3, 0, false) = (b, s)) (h : s.2.1 = 0) (ho : s.2.2 = false) : parseS cg l id = if 0 < s.1.length ∨ mbE b ≠ 0 then (nB, 3) else (b, 0) := by
  have : firstS s = 0 := by unfold firstS; rw [ho]; exact h
  unfold parseS
  rw [if_pos hb, hx, this, if_neg (by simp)]
theorem parse_no (hb : l.take 3 ≠ mk cg) : parseS cg l id = (nB, 3) := by unfold parseS; rw [if_neg hb]
end
end Go.Proofs.YthbilcadifbaeaaDoor.OlQp

namespace Go.Proofs.YthbilcadifbaeaaDoor.OlQb
open Go.RowKit Go.Proofs.YthbilcadifbaeaaDoor.BxD Go.Proofs.YthbilcadifbaeaaDoor.PkKit Go.Proofs.YthbilcadifbaeaaDoor.OlD Go.Proofs.YthbilcadifbaeaaDoor.OlQp
open Go.Proofs.YthbilcadifbaeaaDoor.OlR (mkB)

set_option maxHeartbeats 1000000 in
set_option maxRecDepth 100000 in
theorem begins1 {w : World} {B n cp : Nat} {A : Option Addr} {l : List UInt8} (ht : BxO.Tab w) (hz : BytesAt w B A n l) (hB : B ≤ w.heap.size) (hc : n ≤ cp) (hn : n ≤ 140737488355328) :
    Calls Tryd.prog 73 #[.slice A n cp, .int .i64 1] w fun e w' => e = .returned (.bool (decide (l.take 3 = mk false))) ∧ Below w.heap.size w w' := by
  by_cases h3 : n < 3
  · have hd : decide (l.take 3 = mk false) = false := decide_eq_false fun e => by
      have e1 := congrArg List.length e
      rw [List.length_take, hz.1] at e1
      have : (mk false).length = 3 := rfl
      omega
    rw [hd]
    have h3' : ¬ (3 : Int) ≤ (n : Int) := by omega
    have h3b : decide ((3 : Int) ≤ (n : Int)) = false := decide_eq_false h3'
    clear hz hd ht
    go_enter Tryd.func73, Tryd.ntmps73
    go_upto_region 1 with fail
    refine wp_region_noPanic ?_
    refine wp_region_held_drew (S := fun wr => True) (by kernel_rfl) ?_ (fun hHeld => ?_)
    · trivial
    refine wpAnyH_take (i := 0) (v := ?_) rfl (by kernel_rfl) (by kernel_rfl) (by kernel_rfl) (fun _ _ _ h => h) (Or.inl ⟨by rfl, ?_⟩) hHeld ?_
    rotate_left
    · intro wq hSq; (try dsimp only at hSq); go_simp; try with_reducible rfl
    try simp only [Act.put, List.setIfInBounds_toArray, List.set_cons_zero, List.set_cons_succ, List.getElem_toArray, List.getElem_cons_zero, List.getElem_cons_succ]
    refine wpAnyH_take (i := 1) (v := ?_) rfl (by kernel_rfl) (by kernel_rfl) (by kernel_rfl) (fun _ _ _ h => h) (Or.inl ⟨by rfl, ?_⟩) hHeld ?_
    rotate_left
    · intro wq hSq; (try dsimp only at hSq); go_simp; try with_reducible rfl
    try simp only [Act.put, List.setIfInBounds_toArray, List.set_cons_zero, List.set_cons_succ, List.getElem_toArray, List.getElem_cons_zero, List.getElem_cons_succ]
    refine wpAnyH_take (i := 2) (v := ?_) rfl (by kernel_rfl) (by kernel_rfl) (by kernel_rfl) (fun _ _ _ h => h) (Or.inl ⟨by rfl, ?_⟩) hHeld ?_
    rotate_left
    · intro wq hSq; (try dsimp only at hSq); go_simp; try with_reducible rfl
    try simp only [Act.put, List.setIfInBounds_toArray, List.set_cons_zero, List.set_cons_succ, List.getElem_toArray, List.getElem_cons_zero, List.getElem_cons_succ]
    refine wpAnyH_take (i := 3) (v := ?_) rfl (by kernel_rfl) (by kernel_rfl) (by kernel_rfl) (fun _ _ _ h => h) (Or.inl ⟨by rfl, ?_⟩) hHeld ?_
    rotate_left
    · intro wq hSq; (try dsimp only at hSq); go_simp; try with_reducible rfl
    try simp only [Act.put, List.setIfInBounds_toArray, List.set_cons_zero, List.set_cons_succ, List.getElem_toArray, List.getElem_cons_zero, List.getElem_cons_succ]
    refine wpAnyH_take (i := 4) (v := undef) rfl (by kernel_rfl) (by kernel_rfl) (by kernel_rfl) (fun _ _ _ h => h) (Or.inr ⟨by rfl, rfl⟩) hHeld ?_
    try simp only [Act.put, List.setIfInBounds_toArray, List.set_cons_zero, List.set_cons_succ, List.getElem_toArray, List.getElem_cons_zero, List.getElem_cons_succ]
    refine wpAnyH_take (i := 5) (v := undef) rfl (by kernel_rfl) (by kernel_rfl) (by kernel_rfl) (fun _ _ _ h => h) (Or.inr ⟨by rfl, rfl⟩) hHeld ?_
    try simp only [Act.put, List.setIfInBounds_toArray, List.set_cons_zero, List.set_cons_succ, List.getElem_toArray, List.getElem_cons_zero, List.getElem_cons_succ]
    refine wpAnyH_take (i := 6) (v := undef) rfl (by kernel_rfl) (by kernel_rfl) (by kernel_rfl) (fun _ _ _ h => h) (Or.inr ⟨by rfl, rfl⟩) hHeld ?_
    try simp only [Act.put, List.setIfInBounds_toArray, List.set_cons_zero, List.set_cons_succ, List.getElem_toArray, List.getElem_cons_zero, List.getElem_cons_succ]
    refine wpAnyH_take (i := 7) (v := undef) rfl (by kernel_rfl) (by kernel_rfl) (by kernel_rfl) (fun _ _ _ h => h) (Or.inr ⟨by rfl, rfl⟩) hHeld ?_
    try simp only [Act.put, List.setIfInBounds_toArray, List.set_cons_zero, List.set_cons_succ, List.getElem_toArray, List.getElem_cons_zero, List.getElem_cons_succ]
    refine wpAnyH_ready (rs := [8]) (by kernel_rfl) (by simp) ?_
    refine AllReadyH.cons rfl (fun K hK => ?_) AllReadyH.nil
    go_simp; try with_reducible rfl
    refine hK.out _ _ ?_ (fun hHeld => ?_)
    · exact trivial
    clear hK K
    try simp only [Act.put, List.setIfInBounds_toArray, List.set_cons_zero, List.set_cons_succ, List.getElem_toArray, List.getElem_cons_zero, List.getElem_cons_succ]
    refine wpAnyH_take (i := 9) (v := undef) rfl (by kernel_rfl) (by kernel_rfl) (by kernel_rfl) (fun _ _ _ h => h) (Or.inr ⟨by rfl, rfl⟩) hHeld ?_
    try simp only [Act.put, List.setIfInBounds_toArray, List.set_cons_zero, List.set_cons_succ, List.getElem_toArray, List.getElem_cons_zero, List.getElem_cons_succ]
    refine wpAnyH_take (i := 10) (v := undef) rfl (by kernel_rfl) (by kernel_rfl) (by kernel_rfl) (fun _ _ _ h => h) (Or.inr ⟨by rfl, rfl⟩) hHeld ?_
    try simp only [Act.put, List.setIfInBounds_toArray, List.set_cons_zero, List.set_cons_succ, List.getElem_toArray, List.getElem_cons_zero, List.getElem_cons_succ]
    refine wpAnyH_take (i := 11) (v := ?_) rfl (by kernel_rfl) (by kernel_rfl) (by kernel_rfl) (fun _ _ _ h => h) (Or.inl ⟨by rfl, ?_⟩) hHeld ?_
    rotate_left
    · intro wq hSq; (try dsimp only at hSq); go_simp; try with_reducible rfl
    try simp only [Act.put, List.setIfInBounds_toArray, List.set_cons_zero, List.set_cons_succ, List.getElem_toArray, List.getElem_cons_zero, List.getElem_cons_succ]
    refine wpAnyH_take (i := 12) (v := ?_) rfl (by kernel_rfl) (by kernel_rfl) (by kernel_rfl) (fun _ _ _ h => h) (Or.inl ⟨by rfl, ?_⟩) hHeld ?_
    rotate_left
    · intro wq hSq; (try dsimp only at hSq); go_simp; try with_reducible rfl
    try simp only [Act.put, List.setIfInBounds_toArray, List.set_cons_zero, List.set_cons_succ, List.getElem_toArray, List.getElem_cons_zero, List.getElem_cons_succ]
    refine wpAnyH_done (by kernel_rfl) ?_ _
    refine NoPanic.normal ?_
    go_wp2_with fail
    go_ret
    exact ⟨rfl, by first | exact Below.drew (Below.refl _ _) | exact Below.refl _ _⟩
  · have h3' : (3 : Int) ≤ (n : Int) := by omega
    have h3b : decide ((3 : Int) ≤ (n : Int)) = true := decide_eq_true h3'
    have h3c : (3 : Int) ≤ (cp : Int) := by omega
    have h3d : 3 ≤ cp := by omega
    have ht3 := hz.take (k := 3) (by omega)
    have ki := BxO.itoa_max (u := 1) (ht.below (Below.drew (Below.refl _ _)) (Nat.le_refl _)) (by decide)
    rw [show max (1 : Int) 0 = 1 from rfl, OlOld.digs1] at ki
    have KI := Lib.hid (show Calls Tryd.prog 69 #[.int .i64 1] w.drew (fun e w' => e = .returned (.string ⟨#[49]⟩) ∧ Below w.drew.heap.size w.drew w') from ki)
    have hcv : ∀ wr, Below w.heap.size w wr → (convert 45 9 (.slice A 3 cp)).run Tryd.prog wr = .ok (.string ⟨(l.take 3).toArray⟩) wr := fun wr hb => (ht3.below hb hB).conv cp
    have HCV := Lib.hid hcv
    have hcv0 := hcv w.drew (Below.drew (Below.refl _ _))
    have hq : ((⟨(l.take 3).toArray⟩ : ByteArray) == mkB false) = decide (l.take 3 = mk false) := OlX.text_eq
    obtain ⟨T, hT⟩ : ∃ T : ByteArray, T = ⟨(l.take 3).toArray⟩ := ⟨_, rfl⟩
    rw [← hT] at hcv0 HCV hq
    obtain ⟨d, hd⟩ : ∃ d, d = decide (l.take 3 = mk false) := ⟨_, rfl⟩
    rw [← hd] at hq ⊢
    rw [show mkB false = ⟨#[77, 66, 49]⟩ from rfl, beq_toListBytes] at hq
    clear hcv ht3 hz ki hT hd ht
    go_enter Tryd.func73, Tryd.ntmps73
    go_upto_region 1 with fail
    go_region_held3 (fun wr => (convert 45 9 (.slice A 3 cp)).run Tryd.prog wr = .ok (.string T) wr) (with_reducible first | exact hcv0 | exact hcv1 | go_keep) (
      (go_at_call 69; go_loud (
       refine KI.out.mono ?_
       rintro e w1 ⟨rfl, hb1⟩
       have hb2 : Below w.heap.size w w1 := (Below.drew (Below.refl _ _)).trans hb1
       have hcv1 := HCV.out w1 hb2
       have HB2 := Lib.hid hb2
       clear hb1 hb2
       dsimp only)))
    rename_i hHeld
    clear hHeld hcv0 hcv1
    go_wp2_with fail
    go_ret
    exact ⟨by first | rfl | (rw [← hq]; rfl) | (simp [hq]), HB2.out⟩
set_option maxHeartbeats 1000000 in
set_option maxRecDepth 100000 in
theorem begins2 {w : World} {B n cp : Nat} {A : Option Addr} {l : List UInt8} (ht : BxO.Tab w) (hz : BytesAt w B A n l) (hB : B ≤ w.heap.size) (hc : n ≤ cp) (hn : n ≤ 140737488355328) :
    Calls Tryd.prog 73 #[.slice A n cp, .int .i64 2] w fun e w' => e = .returned (.bool (decide (l.take 3 = mk true))) ∧ Below w.heap.size w w' := by
  by_cases h3 : n < 3
  · have hd : decide (l.take 3 = mk true) = false := decide_eq_false fun e => by
      have e1 := congrArg List.length e
      rw [List.length_take, hz.1] at e1
      have : (mk true).length = 3 := rfl
      omega
    rw [hd]
    have h3' : ¬ (3 : Int) ≤ (n : Int) := by omega
    have h3b : decide ((3 : Int) ≤ (n : Int)) = false := decide_eq_false h3'
    clear hz hd ht
    go_enter Tryd.func73, Tryd.ntmps73
    go_upto_region 1 with fail
    refine wp_region_noPanic ?_
    refine wp_region_held_drew (S := fun wr => True) (by kernel_rfl) ?_ (fun hHeld => ?_)
    · trivial
    refine wpAnyH_take (i := 0) (v := ?_) rfl (by kernel_rfl) (by kernel_rfl) (by kernel_rfl) (fun _ _ _ h => h) (Or.inl ⟨by rfl, ?_⟩) hHeld ?_
    rotate_left
    · intro wq hSq; (try dsimp only at hSq); go_simp; try with_reducible rfl
    try simp only [Act.put, List.setIfInBounds_toArray, List.set_cons_zero, List.set_cons_succ, List.getElem_toArray, List.getElem_cons_zero, List.getElem_cons_succ]
    refine wpAnyH_take (i := 1) (v := ?_) rfl (by kernel_rfl) (by kernel_rfl) (by kernel_rfl) (fun _ _ _ h => h) (Or.inl ⟨by rfl, ?_⟩) hHeld ?_
    rotate_left
    · intro wq hSq; (try dsimp only at hSq); go_simp; try with_reducible rfl
    try simp only [Act.put, List.setIfInBounds_toArray, List.set_cons_zero, List.set_cons_succ, List.getElem_toArray, List.getElem_cons_zero, List.getElem_cons_succ]
    refine wpAnyH_take (i := 2) (v := ?_) rfl (by kernel_rfl) (by kernel_rfl) (by kernel_rfl) (fun _ _ _ h => h) (Or.inl ⟨by rfl, ?_⟩) hHeld ?_
    rotate_left
    · intro wq hSq; (try dsimp only at hSq); go_simp; try with_reducible rfl
    try simp only [Act.put, List.setIfInBounds_toArray, List.set_cons_zero, List.set_cons_succ, List.getElem_toArray, List.getElem_cons_zero, List.getElem_cons_succ]
    refine wpAnyH_take (i := 3) (v := ?_) rfl (by kernel_rfl) (by kernel_rfl) (by kernel_rfl) (fun _ _ _ h => h) (Or.inl ⟨by rfl, ?_⟩) hHeld ?_
    rotate_left
    · intro wq hSq; (try dsimp only at hSq); go_simp; try with_reducible rfl
    try simp only [Act.put, List.setIfInBounds_toArray, List.set_cons_zero, List.set_cons_succ, List.getElem_toArray, List.getElem_cons_zero, List.getElem_cons_succ]
    refine wpAnyH_take (i := 4) (v := undef) rfl (by kernel_rfl) (by kernel_rfl) (by kernel_rfl) (fun _ _ _ h => h) (Or.inr ⟨by rfl, rfl⟩) hHeld ?_
    try simp only [Act.put, List.setIfInBounds_toArray, List.set_cons_zero, List.set_cons_succ, List.getElem_toArray, List.getElem_cons_zero, List.getElem_cons_succ]
    refine wpAnyH_take (i := 5) (v := undef) rfl (by kernel_rfl) (by kernel_rfl) (by kernel_rfl) (fun _ _ _ h => h) (Or.inr ⟨by rfl, rfl⟩) hHeld ?_
    try simp only [Act.put, List.setIfInBounds_toArray, List.set_cons_zero, List.set_cons_succ, List.getElem_toArray, List.getElem_cons_zero, List.getElem_cons_succ]
    refine wpAnyH_take (i := 6) (v := undef) rfl (by kernel_rfl) (by kernel_rfl) (by kernel_rfl) (fun _ _ _ h => h) (Or.inr ⟨by rfl, rfl⟩) hHeld ?_
    try simp only [Act.put, List.setIfInBounds_toArray, List.set_cons_zero, List.set_cons_succ, List.getElem_toArray, List.getElem_cons_zero, List.getElem_cons_succ]
    refine wpAnyH_take (i := 7) (v := undef) rfl (by kernel_rfl) (by kernel_rfl) (by kernel_rfl) (fun _ _ _ h => h) (Or.inr ⟨by rfl, rfl⟩) hHeld ?_
    try simp only [Act.put, List.setIfInBounds_toArray, List.set_cons_zero, List.set_cons_succ, List.getElem_toArray, List.getElem_cons_zero, List.getElem_cons_succ]
    refine wpAnyH_ready (rs := [8]) (by kernel_rfl) (by simp) ?_
    refine AllReadyH.cons rfl (fun K hK => ?_) AllReadyH.nil
    go_simp; try with_reducible rfl
    refine hK.out _ _ ?_ (fun hHeld => ?_)
    · exact trivial
    clear hK K
    try simp only [Act.put, List.setIfInBounds_toArray, List.set_cons_zero, List.set_cons_succ, List.getElem_toArray, List.getElem_cons_zero, List.getElem_cons_succ]
    refine wpAnyH_take (i := 9) (v := undef) rfl (by kernel_rfl) (by kernel_rfl) (by kernel_rfl) (fun _ _ _ h => h) (Or.inr ⟨by rfl, rfl⟩) hHeld ?_
    try simp only [Act.put, List.setIfInBounds_toArray, List.set_cons_zero, List.set_cons_succ, List.getElem_toArray, List.getElem_cons_zero, List.getElem_cons_succ]
    refine wpAnyH_take (i := 10) (v := undef) rfl (by kernel_rfl) (by kernel_rfl) (by kernel_rfl) (fun _ _ _ h => h) (Or.inr ⟨by rfl, rfl⟩) hHeld ?_
    try simp only [Act.put, List.setIfInBounds_toArray, List.set_cons_zero, List.set_cons_succ, List.getElem_toArray, List.getElem_cons_zero, List.getElem_cons_succ]
    refine wpAnyH_take (i := 11) (v := ?_) rfl (by kernel_rfl) (by kernel_rfl) (by kernel_rfl) (fun _ _ _ h => h) (Or.inl ⟨by rfl, ?_⟩) hHeld ?_
    rotate_left
    · intro wq hSq; (try dsimp only at hSq); go_simp; try with_reducible rfl
    try simp only [Act.put, List.setIfInBounds_toArray, List.set_cons_zero, List.set_cons_succ, List.getElem_toArray, List.getElem_cons_zero, List.getElem_cons_succ]
    refine wpAnyH_take (i := 12) (v := ?_) rfl (by kernel_rfl) (by kernel_rfl) (by kernel_rfl) (fun _ _ _ h => h) (Or.inl ⟨by rfl, ?_⟩) hHeld ?_
    rotate_left
    · intro wq hSq; (try dsimp only at hSq); go_simp; try with_reducible rfl
    try simp only [Act.put, List.setIfInBounds_toArray, List.set_cons_zero, List.set_cons_succ, List.getElem_toArray, List.getElem_cons_zero, List.getElem_cons_succ]
    refine wpAnyH_done (by kernel_rfl) ?_ _
    refine NoPanic.normal ?_
    go_wp2_with fail
    go_ret
    exact ⟨rfl, by first | exact Below.drew (Below.refl _ _) | exact Below.refl _ _⟩
  · have h3' : (3 : Int) ≤ (n : Int) := by omega
    have h3b : decide ((3 : Int) ≤ (n : Int)) = true := decide_eq_true h3'
    have h3c : (3 : Int) ≤ (cp : Int) := by omega
    have h3d : 3 ≤ cp := by omega
    have ht3 := hz.take (k := 3) (by omega)
    have ki := BxO.itoa_max (u := 2) (ht.below (Below.drew (Below.refl _ _)) (Nat.le_refl _)) (by decide)
    rw [show max (2 : Int) 0 = 2 from rfl, OlOld.digs2] at ki
    have KI := Lib.hid (show Calls Tryd.prog 69 #[.int .i64 2] w.drew (fun e w' => e = .returned (.string ⟨#[50]⟩) ∧ Below w.drew.heap.size w.drew w') from ki)
    have hcv : ∀ wr, Below w.heap.size w wr → (convert 45 9 (.slice A 3 cp)).run Tryd.prog wr = .ok (.string ⟨(l.take 3).toArray⟩) wr := fun wr hb => (ht3.below hb hB).conv cp
    have HCV := Lib.hid hcv
    have hcv0 := hcv w.drew (Below.drew (Below.refl _ _))
    have hq : ((⟨(l.take 3).toArray⟩ : ByteArray) == mkB true) = decide (l.take 3 = mk true) := OlX.text_eq
    obtain ⟨T, hT⟩ : ∃ T : ByteArray, T = ⟨(l.take 3).toArray⟩ := ⟨_, rfl⟩
    rw [← hT] at hcv0 HCV hq
    obtain ⟨d, hd⟩ : ∃ d, d = decide (l.take 3 = mk true) := ⟨_, rfl⟩
    rw [← hd] at hq ⊢
    rw [show mkB true = ⟨#[77, 66, 50]⟩ from rfl, beq_toListBytes] at hq
    clear hcv ht3 hz ki hT hd ht
    go_enter Tryd.func73, Tryd.ntmps73
    go_upto_region 1 with fail
    go_region_held3 (fun wr => (convert 45 9 (.slice A 3 cp)).run Tryd.prog wr = .ok (.string T) wr) (with_reducible first | exact hcv0 | exact hcv1 | go_keep) (
      (go_at_call 69; go_loud (
       refine KI.out.mono ?_
       rintro e w1 ⟨rfl, hb1⟩
       have hb2 : Below w.heap.size w w1 := (Below.drew (Below.refl _ _)).trans hb1
       have hcv1 := HCV.out w1 hb2
       have HB2 := Lib.hid hb2
       clear hb1 hb2
       dsimp only)))
    rename_i hHeld
    clear hHeld hcv0 hcv1
    go_wp2_with fail
    go_ret
    exact ⟨by first | rfl | (rw [← hq]; rfl) | (simp [hq]), HB2.out⟩
end Go.Proofs.YthbilcadifbaeaaDoor.OlQb

namespace Go.Proofs.YthbilcadifbaeaaDoor.OlQs
open Go.RowKit Go.Proofs.YthbilcadifbaeaaDoor.BxD Go.Proofs.YthbilcadifbaeaaDoor.BxKit Go.Proofs.YthbilcadifbaeaaDoor.BxR Go.Proofs.YthbilcadifbaeaaDoor.BxC Go.Proofs.YthbilcadifbaeaaDoor.OlD Go.Proofs.YthbilcadifbaeaaDoor.OlU
open Go.Proofs.YthbilcadifbaeaaDoor.RrA (RR RR.below RR.lt RR.of_rest RP)
open Go.Proofs.YthbilcadifbaeaaDoor.PkKit (BytesAt)
open Go.Proofs.YthbilcadifbaeaaDoor.OlC (MBk MBk.cells)
open Go.Proofs.YthbilcadifbaeaaDoor.PkF (ptr)

structure QS (w wr : World) (T X : Nat) (s : St) (id : ByteArray) (v n hg : Int) (WA : Option Addr) (wn wc : Nat) (MA : Option Addr) (mn mc' : Nat) (ws : List ByteArray) (rs : List Raw) : Prop where
  low : Below w.heap.size w wr
  rd : RR wr T s.1 s.2.1
  res : wr.heap[w.heap.size]? = some (.cells zbox 25 (0, 0))
  blk : wr.heap[X]? = some (.cells #[.string id, .int .i64 v, .int .i64 n, .int .i64 hg, .slice WA wn wc, .slice MA mn mc'] 25 (0, 0))
  hT : w.heap.size < T
  hX : T < X
  ow : wr.ownsRow (X + 1) 9 1 (.slice WA wn wc) wn (ws.map Value.string)
  om : wr.ownsRow (X + 1) 28 7 (.slice MA mn mc') mn (mc rs)
  ko : ∀ r ∈ rs, wr.ownsRow (X + 1) 3 1 (.slice r.K r.m.keys.length r.c) r.m.keys.length (r.m.keys.map (Value.int .i64))
section
variable {w wr w2 w3 : World} {T X : Nat} {s s' : St} {id : ByteArray} {v n hg : Int} {WA MA WA' MA' : Option Addr} {wn wc mn mc' wc2 mc2 : Nat} {ws : List ByteArray} {rs : List Raw}
theorem QS.size (h : QS w wr T X s id v n hg WA wn wc MA mn mc' ws rs) : X < wr.heap.size := (Array.getElem?_eq_some_iff.1 h.blk).1
theorem QS.keep (h : QS w wr T X s id v n hg WA wn wc MA mn mc' ws rs) (hgr : wr.grownBy w2 (some T)) (hr : RR w2 T s'.1 s'.2.1) : QS w w2 T X s' id v n hg WA wn wc MA mn mc' ws rs := by
  have h1 := h.size
  have h2 := h.hT
  have h3 := h.hX
  have hb : ∀ g, g ≠ T → g < wr.heap.size → w2.heap[g]? = wr.heap[g]? := fun g k1 k2 => hgr.block g k2 (fun e => k1 (Option.some.inj e))
  exact ⟨h.low.grown hgr h.low.size (fun k e => by have := Option.some.inj e; omega), hr, (hb _ (by omega) (by omega)).trans h.res, (hb _ (by omega) (by omega)).trans h.blk, h2, h3, own_block h.ow fun g e => hb g (by have := (h.ow.lt g e).1; omega) (h.ow.lt g e).2,
    own_block h.om fun g e => hb g (by have := (h.om.lt g e).1; omega) (h.om.lt g e).2, fun r hr => own_block (h.ko r hr) fun g e => hb g (by have := ((h.ko r hr).lt g e).1; omega) ((h.ko r hr).lt g e).2⟩
theorem QS.go (h : QS w wr T X s id v n hg WA wn wc MA mn mc' ws rs) (hb : Below wr.heap.size wr w2) : QS w w2 T X s id v n hg WA wn wc MA mn mc' ws rs := by
  have h1 := h.size
  have h2 := h.hT
  have h3 := h.hX
  exact ⟨h.low.trans (hb.mono h.low.size), h.rd.below hb (by omega), (hb.block _ (by omega)).trans h.res, (hb.block _ (by omega)).trans h.blk, h2, h3, own_block h.ow fun g e => hb.block g (h.ow.lt g e).2,
    own_block h.om fun g e => hb.block g (h.om.lt g e).2, fun r hr => own_block (h.ko r hr) fun g e => hb.block g ((h.ko r hr).lt g e).2⟩
theorem QS.cells (h : QS w wr T X s id v n hg WA wn wc MA mn mc' ws rs) : wr.cell? { block := X, off := 0 } = some (.string id) ∧ wr.cell? { block := X, off := 1 } = some (.int .i64 v) ∧ wr.cell? { block := X, off := 2 } = some (.int .i64 n) ∧
    wr.cell? { block := X, off := 3 } = some (.int .i64 hg) ∧ wr.cell? { block := X, off := 4 } = some (.slice WA wn wc) ∧ wr.cell? { block := X, off := 5 } = some (.slice MA mn mc') ∧ ∀ i, wr.frozen? { block := X, off := i } = false := by
  have c := fun o => cell_of_row wr X o _ _ _ h.blk
  exact ⟨(c 0).trans rfl, (c 1).trans rfl, (c 2).trans rfl, (c 3).trans rfl, (c 4).trans rfl, (c 5).trans rfl, fun i => by simp [World.frozen?, h.blk]⟩
/-- A number is stored in the box. -/
theorem QS.set (h : QS w wr T X s id v n hg WA wn wc MA mn mc' ws rs) (i : Nat) (x : Value) {v' n' hg' : Int}
    (hv : (#[.string id, .int .i64 v, .int .i64 n, .int .i64 hg, .slice WA wn wc, .slice MA mn mc'] : Array Value).setIfInBounds i x = #[.string id, .int .i64 v', .int .i64 n', .int .i64 hg', .slice WA wn wc, .slice MA mn mc']) :
    QS w (wr.setCell { block := X, off := i } x) T X s id v' n' hg' WA wn wc MA mn mc' ws rs := by
  have h2 := h.hT
  have h3 := h.hX
  refine ⟨h.low.setCell (p := ⟨X, i, none⟩) (by show w.heap.size ≤ X; omega) x, h.rd.below (B := T + 1) ((Below.refl _ _).setCell (by show T + 1 ≤ X; omega) _) (Nat.lt_succ_self _), (Below.heap_setCell _ _ _ _ (by show w.heap.size ≠ X; omega)).trans h.res, ?_, h2, h3, ownsRow_setCell_below h.ow (by show X < X + 1; omega) _, ownsRow_setCell_below h.om (by show X < X + 1; omega) _, fun r hr => ownsRow_setCell_below (h.ko r hr) (by show X < X + 1; omega) _⟩
  rw [← hv]
  simp [World.setCell, Array.getElem?_modify, h.blk]
/-- A store beside: in a message's block, behind the box's. -/
theorem QS.aside (h : QS w wr T X s id v n hg WA wn wc MA mn mc' ws rs) {L i : Nat} (hL : X < L) {cur : Array Value} (hb : wr.heap[L]? = some (.cells cur 28 (0, 0))) (hn : (Value.slice MA mn mc').ownBlock ≠ some L) (x : Value) :
    QS w (wr.setCell { block := L, off := i } x) T X s id v n hg WA wn wc MA mn mc' ws rs := by
  have h2 := h.hT
  have h3 := h.hX
  have hk : ∀ g, g ≠ L → (wr.setCell { block := L, off := i } x).heap[g]? = wr.heap[g]? := fun g hg => Below.heap_setCell _ _ _ _ (by show g ≠ L; exact hg)
  refine ⟨h.low.setCell (p := ⟨L, i, none⟩) (by show w.heap.size ≤ L; omega) x, h.rd.below (B := T + 1) ((Below.refl _ _).setCell (by show T + 1 ≤ L; omega) _) (Nat.lt_succ_self _), (hk _ (by omega)).trans h.res, (hk _ (by omega)).trans h.blk, h2, h3,
    own_block h.ow fun g e => hk g (fun e2 => ?_), own_block h.om fun g e => hk g (fun e2 => hn (by rw [e, e2])), fun r hr => own_block (h.ko r hr) fun g e => hk g (fun e2 => ?_)⟩
  · exact O1Pj.own_ne_blk h.ow hb (by decide) (by rw [e, e2])
  · exact O1Pj.own_ne_blk (h.ko r hr) hb (by decide) (by rw [e, e2])
/-- A word more: behind the append, and its store. -/
theorem QS.word (h : QS w wr T X s id v n hg WA wn wc MA mn mc' ws rs) {t : ByteArray} (ho : w3.ownsRow (X + 1) 9 1 (.slice WA' (wn + 1) wc2) (wn + 1) ((ws ++ [t]).map Value.string)) (hgr : wr.grownBy w3 (Value.slice WA wn wc).ownBlock) :
    QS w (w3.setCell { block := X, off := 4 } (.slice WA' (wn + 1) wc2)) T X s id v n hg WA' (wn + 1) wc2 MA mn mc' (ws ++ [t]) rs := by
  have h2 := h.hT
  have h3 := h.hX
  have h1 := h.size
  have hlo : ∀ g, g < X + 1 → w3.heap[g]? = wr.heap[g]? := fun g k => hgr.block g (by omega) (fun e => by have := (h.ow.lt g e.symm).1; omega)
  have hlow : Below w.heap.size w w3 := h.low.grown hgr h.low.size (fun k e => by have := (h.ow.lt k e).1; omega)
  refine ⟨hlow.setCell (p := ⟨X, 4, none⟩) (by show w.heap.size ≤ X; omega) _, (h.rd.below (B := X + 1) ⟨hgr.os, hgr.tape, hgr.output, hgr.size, hlo⟩ (by omega)).below (B := T + 1) ((Below.refl _ _).setCell (by show T + 1 ≤ X; omega) _) (Nat.lt_succ_self _), (Below.heap_setCell _ _ _ _ (by show w.heap.size ≠ X; omega)).trans ((hlo _ (by omega)).trans h.res), ?_, h2, h3, ownsRow_setCell_below ho (by show X < X + 1; omega) _, ownsRow_setCell_below (own_block h.om fun g e => hgr.block g (h.om.lt g e).2 fun e2 => own_ne h.om h.ow e2.symm (by decide) e) (by show X < X + 1; omega) _,
    fun r hr => ownsRow_setCell_below (own_block (h.ko r hr) fun g e => hgr.block g ((h.ko r hr).lt g e).2 fun e2 => own_ne (h.ko r hr) h.ow e2.symm (by decide) e) (by show X < X + 1; omega) _⟩
  have := (hlo X (by omega)).trans h.blk
  simp [World.setCell, Array.getElem?_modify, this]
/-- A row of ints of a message that is being made grows. -/
theorem QS.grow (h : QS w wr T X s id v n hg WA wn wc MA mn mc' ws rs) {L nk : Nat} {vk : Value} {xs : List Value} (hL : X < L) (ho : wr.ownsRow (L + 1) 3 1 vk nk xs) (hgr : wr.grownBy w3 vk.ownBlock) (hkl : ∀ r ∈ rs, ∀ g, (Value.slice r.K r.m.keys.length r.c).ownBlock = some g → g < L) :
    QS w w3 T X s id v n hg WA wn wc MA mn mc' ws rs := by
  have h2 := h.hT
  have h3 := h.hX
  have h1 := h.size
  have hlo : ∀ g, g < L + 1 → g < wr.heap.size → w3.heap[g]? = wr.heap[g]? := fun g k k2 => hgr.block g k2 (fun e => by have := (ho.lt g e.symm).1; omega)
  have hlow : Below w.heap.size w w3 := h.low.grown hgr h.low.size (fun k e => by have := (ho.lt k e).1; omega)
  refine ⟨hlow, h.rd.below (B := X + 1) ⟨hgr.os, hgr.tape, hgr.output, hgr.size, fun g hg => hlo g (by omega) (by omega)⟩ (by omega), (hlo _ (by omega) (by omega)).trans h.res, (hlo _ (by omega) h1).trans h.blk, h2, h3, own_block h.ow fun g e => hgr.block g (h.ow.lt g e).2 fun e2 => own_ne h.ow ho e2.symm (by decide) e, own_block h.om fun g e => hgr.block g (h.om.lt g e).2 fun e2 => own_ne h.om ho e2.symm (by decide) e,
    fun r hr => own_block (h.ko r hr) fun g e => hlo g (by have := hkl r hr g e; omega) ((h.ko r hr).lt g e).2⟩
/-- What is left is stored. -/
theorem QS.rest (h : QS w wr T X s id v n hg WA wn wc MA mn mc' ws rs) {A : Option Addr} {nn cp : Nat} {l : List UInt8} (hs : s' = (l, s.2)) (hz : BytesAt wr T A nn l) (hc : nn ≤ cp) (hb : nn ≤ 140737488355328) :
    QS w (wr.setCell { block := T, off := 0 } (.slice A nn cp)) T X s' id v n hg WA wn wc MA mn mc' ws rs := by
  subst hs
  exact h.keep (s' := (l, s.2)) (PkF.grown_set _) (RR.of_rest h.rd hz hc hb)
/-- A message more. -/
theorem QS.msg (h : QS w wr T X s id v n hg WA wn wc MA mn mc' ws rs) {r : Raw} (hk : wr.ownsRow (X + 1) 3 1 (.slice r.K r.m.keys.length r.c) r.m.keys.length (r.m.keys.map (Value.int .i64))) (ho : w3.ownsRow (X + 1) 28 7 (.slice MA' (mn + 1) mc2) (mn + 1) (mc (rs ++ [r]))) (hgr : wr.grownBy w3 (Value.slice MA mn mc').ownBlock) :
    QS w (w3.setCell { block := X, off := 5 } (.slice MA' (mn + 1) mc2)) T X s id v n hg WA wn wc MA' (mn + 1) mc2 ws (rs ++ [r]) := by
  have h2 := h.hT
  have h3 := h.hX
  have h1 := h.size
  have hlo : ∀ g, g < X + 1 → w3.heap[g]? = wr.heap[g]? := fun g k => hgr.block g (by omega) (fun e => by have := (h.om.lt g e.symm).1; omega)
  have hlow : Below w.heap.size w w3 := h.low.grown hgr h.low.size (fun k e => by have := (h.om.lt k e).1; omega)
  refine ⟨hlow.setCell (p := ⟨X, 5, none⟩) (by show w.heap.size ≤ X; omega) _, (h.rd.below (B := X + 1) ⟨hgr.os, hgr.tape, hgr.output, hgr.size, hlo⟩ (by omega)).below (B := T + 1) ((Below.refl _ _).setCell (by show T + 1 ≤ X; omega) _) (Nat.lt_succ_self _), (Below.heap_setCell _ _ _ _ (by show w.heap.size ≠ X; omega)).trans ((hlo _ (by omega)).trans h.res), ?_, h2, h3, ownsRow_setCell_below (own_block h.ow fun g e => hgr.block g (h.ow.lt g e).2 fun e2 => own_ne h.ow h.om e2.symm (by decide) e) (by show X < X + 1; omega) _, ownsRow_setCell_below ho (by show X < X + 1; omega) _, fun q hq => ?_⟩
  · have := (hlo X (by omega)).trans h.blk
    simp [World.setCell, Array.getElem?_modify, this]
  · have hq2 : wr.ownsRow (X + 1) 3 1 (.slice q.K q.m.keys.length q.c) q.m.keys.length (q.m.keys.map (Value.int .i64)) := by
      rcases List.mem_append.1 hq with hq | hq
      · exact h.ko q hq
      · obtain rfl := List.mem_singleton.1 hq
        exact hk
    exact ownsRow_setCell_below (own_block hq2 fun g e => hgr.block g (hq2.lt g e).2 fun e2 => own_ne hq2 h.om e2.symm (by decide) e) (by show X < X + 1; omega) _
theorem six_cell {wr : World} {P : Nat} {p : Addr} (hp : p.block ≠ P) (c0 c1 c2 c3 c4 c5 : Value) : ((((((wr.setCell { block := P, off := 0 } c0).setCell { block := P, off := 1 } c1).setCell { block := P, off := 2 } c2).setCell { block := P, off := 3 } c3).setCell { block := P, off := 4 } c4).setCell { block := P, off := 5 } c5).cell? p = wr.cell? p := by
  refine World.cell?_of_block ?_
  iterate 6 rw [Below.heap_setCell _ _ _ _ (by show p.block ≠ P; exact hp)]
theorem cell_drew (W : World) (p : Addr) : W.drew.cell? p = W.cell? p := rfl
theorem out_drew {b : Box} {er : Int} {w w' : World} {e : Ending} (h : OlY.ParseOut b er w e w') : OlY.ParseOut b er w e w'.drew := by
  obtain ⟨WA, wn, wc, MA, mn, mc', he, h1, h2, h3, h4, h5⟩ := h
  have hb := Below.drew (Below.refl w'.heap.size w')
  exact ⟨WA, wn, wc, MA, mn, mc', he, h1, h2, StrsAt.below h3 hb (Nat.le_refl _), MsgsAt.below h4 hb (Nat.le_refl _), Below.drew h5⟩
/-- Nothing is told but why. -/
theorem QS.tell (h : QS w wr T X s id v n hg WA wn wc MA mn mc' ws rs) (er : Int) : ∃ W, W = (((((wr.setCell { block := w.heap.size, off := 0 } (.string ⟨#[]⟩)).setCell { block := w.heap.size, off := 1 } (.int .i64 0)).setCell { block := w.heap.size, off := 2 } (.int .i64 0)).setCell { block := w.heap.size, off := 3 } (.int .i64 0)).setCell { block := w.heap.size, off := 4 } (.slice none 0 0)).setCell { block := w.heap.size, off := 5 } (.slice none 0 0) ∧
    W.cell? { block := w.heap.size, off := 0 } = some (.string ⟨#[]⟩) ∧ W.cell? { block := w.heap.size, off := 1 } = some (.int .i64 0) ∧ W.cell? { block := w.heap.size, off := 2 } = some (.int .i64 0) ∧ W.cell? { block := w.heap.size, off := 3 } = some (.int .i64 0) ∧ W.cell? { block := w.heap.size, off := 4 } = some (.slice none 0 0) ∧ W.cell? { block := w.heap.size, off := 5 } = some (.slice none 0 0) ∧
    OlY.ParseOut nB er w (.returned (.tuple #[.agg #[.string ⟨#[]⟩, .int .i64 0, .int .i64 0, .int .i64 0, .slice none 0 0, .slice none 0 0], .int .i64 er])) W := by
  obtain ⟨W, hW, a0, a1, a2, a3, a4, a5, hgr⟩ := ret6 h.res (.string ⟨#[]⟩) (.int .i64 0) (.int .i64 0) (.int .i64 0) (.slice none 0 0) (.slice none 0 0)
  exact ⟨W, hW, a0, a1, a2, a3, a4, a5, _, 0, 0, _, 0, 0, rfl, Nat.le_refl _, Nat.le_refl _, RowAt.nil _ _ _ _ _, RowAt.nil _ _ _ _ _, h.low.grown hgr h.low.size (fun k e => by have : w.heap.size = k := Option.some.inj e; omega)⟩
end
end Go.Proofs.YthbilcadifbaeaaDoor.OlQs
