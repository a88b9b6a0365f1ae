/-
  The safe that every program must know.
-/
import Derived.Test.YtolkghdeppoanaaSfV
import Derived.Test.YtolkghdeppoanaaSfQ
import Derived.Lib.SmallJoins
set_option linter.unusedVariables false
set_option linter.unusedSimpArgs false
namespace Go.Proofs.Ytolkghdeppoanaa.SwA
open Go.RowKit Go.Proofs.Ytolkghdeppoanaa.PkA Go.Proofs.Ytolkghdeppoanaa.PkB Go.Proofs.Ytolkghdeppoanaa.PkC Go.Proofs.Ytolkghdeppoanaa.BxD Go.Proofs.Ytolkghdeppoanaa.BxKit Go.Proofs.Ytolkghdeppoanaa.RkO Go.Proofs.Ytolkghdeppoanaa.RkC Go.Proofs.Ytolkghdeppoanaa.RkD Go.Proofs.Ytolkghdeppoanaa.RkR Go.Proofs.Ytolkghdeppoanaa.RkK Go.Proofs.Ytolkghdeppoanaa.RkP Go.Proofs.Ytolkghdeppoanaa.RkM Go.Proofs.Ytolkghdeppoanaa.RkN Go.Proofs.Ytolkghdeppoanaa.SfB Go.Proofs.Ytolkghdeppoanaa.SfC Go.Proofs.Ytolkghdeppoanaa.SfD Go.Proofs.Ytolkghdeppoanaa.SfE Go.Proofs.Ytolkghdeppoanaa.SfK Go.Proofs.Ytolkghdeppoanaa.SfO Go.Proofs.Ytolkghdeppoanaa.SfP Go.Proofs.Ytolkghdeppoanaa.SfQ Go.Proofs.Ytolkghdeppoanaa.SfT Go.Proofs.Ytolkghdeppoanaa.SfU Go.Proofs.Ytolkghdeppoanaa.SfV

abbrev nA : ByteArray := ⟨#[97]⟩
abbrev nB : ByteArray := ⟨#[98]⟩
theorem cab : cmpS nA nB = -1 := by
  unfold cmpS
  rw [ByteArray.toList_eq, ByteArray.toList_eq]
  decide
def l0 : List Ch := [⟨nA, false, [120]⟩, ⟨nB, false, [121]⟩]
def d0 : List F := [(nA, [120]), (nB, [121])]
theorem dall0 : dall [] l0 = d0 := by
  have h := cab
  simp [dall, l0, d0, doneC, putF, put, hit, lo, ins, h]
theorem cut_len (nm : ByteArray) (h : nm.size ≤ 24) : (chB ⟨nm, true, []⟩).length = 2 + nm.size := by
  have e1 : (nums [1]).length = 1 := by rw [nums_one]; show (Lib.uvarint 1).length = 1; rw [Lib.uvarint_small (by omega)]; rfl
  have e2 : (tx nm).length = 1 + nm.size := by
    unfold tx
    rw [List.length_append, Lib.uvarint_small (by omega)]
    have : nm.data.toList.length = nm.size := by rw [Array.length_toList]; rfl
    rw [this]; rfl
  rw [chB_true, List.length_append, e1, e2]; omega
theorem one_cut : (bsL [⟨nA, true, []⟩]).length = 3 := by
  unfold bsL
  rw [List.flatMap_cons, List.flatMap_nil, List.append_nil, cut_len nA (by decide)]; rfl
theorem chB_few (c : Ch) (h : c.cut = false) (h1 : c.name.size ≤ 24) (h2 : c.data.length ≤ 24) : (chB c).length ≤ 80 := by
  obtain ⟨nm, ct, d⟩ := c
  obtain rfl : ct = false := h
  have e1 := nums_len [0]
  have e2 := tx_len (s := nm) (by simp at h1; omega)
  have e3 := tx_len (s := baL d) (by rw [ba_size]; simp at h2; omega)
  rw [ba_size] at e3
  rw [chB_false, List.length_append, List.length_append]
  simp at h1 h2 e1
  omega
theorem l0_few : (bsL l0).length ≤ 160 := by
  have h1 := chB_few ⟨nA, false, [120]⟩ rfl (by decide) (by decide)
  have h2 := chB_few ⟨nB, false, [121]⟩ rfl (by decide) (by decide)
  unfold bsL l0
  rw [List.flatMap_cons, List.flatMap_cons, List.flatMap_nil, List.append_nil, List.length_append]
  omega
theorem grt0 (b : List UInt8) : grt (newS 1000) b l0 = [(nR, cst nR b), (nA, 10), (nB, 10)] := by
  have h1 : ¬ nR = nA := by decide
  have h2 : ¬ nR = nB := by decide
  have h3 : ¬ nA = nB := by decide
  unfold grt l0
  rw [show (newS 1000).files = [] from rfl]
  simp [gr1, gr2, mxu, h1, h2, h3]
  decide
theorem fit0 : fitE (newS 1000) l0 = 0 := by
  have h1 := l0_few
  have h2 : mayL l0 = true := by decide
  unfold fitE
  rw [h2, grt0]
  rw [show (newS 1000).down = false from rfl, show (newS 1000).room = 1000 from rfl]
  have h3 : sum2 [(nR, cst nR (bsL l0)), (nA, 10), (nB, 10)] = 33 + (bsL l0).length := by
    simp [sum2, cst, show nR.size = 5 from rfl]; omega
  rw [h3]
  simp
  omega
theorem sz0 : szC l0 := by
  intro c hc
  simp only [l0, List.mem_cons, List.not_mem_nil, or_false] at hc
  rcases hc with rfl | rfl <;> exact ⟨by show (1 : Nat) ≤ _; omega, by show (1 : Nat) ≤ _; omega⟩
theorem st2 : comE (newS 1000) l0 = 0 ∧ Cl d0 1000 (comS (newS 1000) l0) := by
  have h := com_any (new_cl 1000).1 Fk.nil fit0
  rw [dall0] at h
  rcases h with ⟨h1, h2, _⟩ | ⟨_, h2, _⟩
  · exact ⟨h1, h2⟩
  · exact absurd rfl h2
theorem fk0 : Fk d0 := by
  have h := SfV.Cx.all (cx_of (new_cl 1000).1 Fk.nil fit0)
  rw [dall0] at h
  exact h
/-- The literal, as the walk makes it. -/
abbrev V1 (w : World) : World := w.alloc (.cells #[.int .u8 120] 5 (1, 2))
abbrev V2 (w : World) : World := (V1 w).alloc (.cells #[.int .u8 121] 5 (1, 2))
abbrev V3 (w : World) : World := (V2 w).alloc (.cells #[.string nA, .bool false, .slice (some ⟨w.heap.size, 0, none⟩) 1 1, .string nB, .bool false, .slice (some ⟨w.heap.size + 1, 0, none⟩) 1 1] 42)
theorem v_size (w : World) : (V1 w).heap.size = w.heap.size + 1 ∧ (V2 w).heap.size = w.heap.size + 2 ∧ (V3 w).heap.size = w.heap.size + 3 := by simp [V1, V2, V3]
theorem v_below (w : World) : Below w.heap.size w (V3 w) := by
  have h1 := below_alloc w (.cells #[.int .u8 120] 5 (1, 2))
  have h2 := h1.alloc h1.size (.cells #[.int .u8 121] 5 (1, 2))
  exact h2.alloc h2.size _
theorem v_chs (w : World) (base : Nat) : ChsP (V3 w) base w.heap.size (V3 w).heap.size (some ⟨w.heap.size + 2, 0, none⟩) 2 l0 := by
  obtain ⟨s1, s2, s3⟩ := v_size w
  have b1 : (V3 w).heap[w.heap.size]? = some (.cells #[.int .u8 120] 5 (1, 2)) :=
    (Below.heap_alloc _ _ _ (by rw [s2]; omega)).trans ((Below.heap_alloc _ _ _ (by rw [s1]; omega)).trans (heap_alloc_new w _))
  have b2 : (V3 w).heap[w.heap.size + 1]? = some (.cells #[.int .u8 121] 5 (1, 2)) := by
    have h := (Below.heap_alloc (V2 w) (.cells #[.string nA, .bool false, .slice (some ⟨w.heap.size, 0, none⟩) 1 1, .string nB, .bool false, .slice (some ⟨w.heap.size + 1, 0, none⟩) 1 1] 42) _ (by rw [s1, s2]; omega)).trans (heap_alloc_new (V1 w) (.cells #[.int .u8 121] 5 (1, 2)))
    rw [s1] at h
    exact h
  have b3 := heap_alloc_new (V2 w) (.cells #[.string nA, .bool false, .slice (some ⟨w.heap.size, 0, none⟩) 1 1, .string nB, .bool false, .slice (some ⟨w.heap.size + 1, 0, none⟩) 1 1] 42)
  rw [s2] at b3
  have hc := fun o => cell_of_row (V3 w) (w.heap.size + 2) o _ _ _ b3
  have one : ∀ (b : Nat) (c : UInt8), w.heap.size ≤ b → b < (V3 w).heap.size → (V3 w).heap[b]? = some (.cells #[.int .u8 (c.toNat : Int)] 5 (1, 2)) → byP (V3 w) base w.heap.size (V3 w).heap.size (some ⟨b, 0, none⟩) 1 [c] := by
    intro b c h1 h2 h3
    refine ⟨rfl, fun _ => ⟨_, rfl, .inr ⟨h1, h2⟩, fun j d hj => ?_⟩⟩
    rw [RkR.add_new, cell_of_row (V3 w) b j _ _ _ h3]
    match j, hj with
    | 0, hj => obtain rfl := Option.some.inj hj; rfl
    | j + 1, hj => simp at hj
  refine ⟨rfl, fun _ => ⟨_, rfl, .inr ⟨by show w.heap.size ≤ w.heap.size + 2; omega, by show w.heap.size + 2 < _; rw [s3]; omega⟩, fun j c hj => ?_⟩⟩
  rw [RkR.add_new]
  match j, hj with
  | 0, hj =>
    obtain rfl := Option.some.inj hj
    exact ⟨hc 0, hc 1, _, _, hc 2, Nat.le_refl _, one w.heap.size 120 (Nat.le_refl _) (by rw [s3]; omega) b1⟩
  | 1, hj =>
    obtain rfl := Option.some.inj hj
    exact ⟨hc 3, hc 4, _, _, hc 5, Nat.le_refl _, one (w.heap.size + 1) 121 (by omega) (by rw [s3]; omega) b2⟩
  | j + 2, hj => simp [l0] at hj
theorem c_chs (w : World) : ChsP (w.alloc (.cells #[.string nA, .bool true, .slice none 0 0] 42)) (w.heap.size + 1) 0 0 (some ⟨w.heap.size, 0, none⟩) 1 [⟨nA, true, []⟩] := by
  have hc := fun o => cell_of_row (w.alloc (.cells #[.string nA, .bool true, .slice none 0 0] 42)) w.heap.size o _ _ _ (heap_alloc_new w _)
  refine ⟨rfl, fun _ => ⟨_, rfl, .inl (Nat.lt_succ_self _), fun j c hj => ?_⟩⟩
  rw [RkR.add_new]
  match j, hj with
  | 0, hj =>
    obtain rfl := Option.some.inj hj
    exact ⟨hc 0, hc 1, _, _, hc 2, Nat.le_refl _, rfl, fun h => absurd h (Nat.lt_irrefl 0)⟩
  | j + 1, hj => simp at hj
theorem up {T : Nat} {w a b : World} (h : Below T w a) (hT : T ≤ w.heap.size) (k : Below a.heap.size a b) : Below T w b := h.trans (k.mono (Nat.le_trans hT h.size))
set_option maxHeartbeats 8000000 in
set_option maxRecDepth 100000 in
theorem awake (w : World) : Calls Try.prog 10 #[] w fun e w' => e = .returned (.bool true) ∧ Below w.heap.size w w' := by
  obtain ⟨T, hT⟩ : ∃ T, T = w.heap.size := ⟨_, rfl⟩
  have KN := Lib.hid (newX w w.heap.size 1000 (Nat.le_refl _))
  rw [← hT] at KN
  unfold ptr at KN
  have HT := Lib.hid (Nat.le_of_eq hT)
  go_enter Try.func10, Try.ntmps10
  rw [← hT]
  clear hT
  go_upto_region 2 with (go_at_call 16; go_loud (refine KN.out.mono ?_; rintro e w1 ⟨rfl, h1, h2⟩; have R1 := Lib.hid h1; have B1 := Lib.hid h2; clear h1 h2))
  have o1 := op_cl (new_cl 1000).1 Fk.nil
  have KO := Lib.hid (open_any (J := 0) R1.out (by omega) (op_few_cl (new_cl 1000).1 Fk.nil))
  rw [o1.1, o1.2.1] at KO
  unfold ptr at KO
  clear o1 KN
  go_upto_region 3 with (go_at_call 17; go_loud (
     refine KO.out.mono ?_
     rintro e w2 ⟨v, rfl, h1, h2, _, h4⟩
     obtain ⟨S, rfl, h5, _⟩ := h4 rfl
     have S2 := Lib.hid (show Sx T T S 0 0 1 w2 (newS 1000) from ⟨h1, h5⟩)
     have B2 := Lib.hid (B1.out.trans (h2.to R1.out.bs))
     clear h1 h2 h4 h5))
  obtain ⟨s1, s2, s3⟩ := v_size w2
  have hcv1 : (convert 23 23 (.slice (some ⟨w2.heap.size, 0, none⟩) 1 1)).run Try.prog (w2.alloc (.cells #[.int .u8 120] 5)) = .ok (.slice (some ⟨w2.heap.size, 0, none⟩) 1 1) (V1 w2) :=
    _root_.Go.Joins.run_convert_bytes_const_at (P := Try.prog) w2 23 5 #[.int .u8 120] 1 1 w2.heap.size rfl Try.underlying23 Try.underlying5
  have hcv2 := _root_.Go.Joins.run_convert_bytes_const_at (P := Try.prog) (V1 w2) 23 5 #[.int .u8 121] 1 1 (V1 w2).heap.size rfl Try.underlying23 Try.underlying5
  rw [s1] at hcv2
  have S3 := Lib.hid (S2.out.win (v_below w2))
  have KC := Lib.hid (commit_any (cp := 2) S3.out (by omega) (v_chs w2 T) (by omega) sz0)
  rw [st2.1] at KC
  obtain ⟨c1, hc1⟩ : ∃ c1, c1 = comS (newS 1000) l0 := ⟨_, rfl⟩
  have C1 := Lib.hid (show Cl d0 1000 c1 by rw [hc1]; exact st2.2)
  rw [← hc1] at KC
  unfold ptr at KC
  clear hc1 KO
  go_upto_region 4 with (go_at_call 18; go_loud (
     refine KC.out.mono ?_
     rintro e w3 ⟨rfl, h1, h2⟩
     have S4 := Lib.hid h1.shut
     have B3 := Lib.hid ((up B2.out HT.out (v_below w2)).trans (h2.to S3.out.rx.bs))
     clear h1 h2))
  have KK := Lib.hid (crashX (dc := 0) S4.out.rx (by omega) (PkKit.BytesAt.nil w3 0 none) (Nat.zero_le _) (by omega))
  obtain ⟨c2, hc2⟩ : ∃ c2, c2 = crS c1 [] := ⟨_, rfl⟩
  have C2 := Lib.hid (show Cl d0 1000 c2 by rw [hc2]; exact (cl_crash C1.out []).1)
  rw [← hc2] at KK
  unfold ptr at KK
  clear hc2 KC hcv1 hcv2 s1 s2 s3
  go_upto_region 5 with (go_at_call 23; go_loud (refine KK.out.mono ?_; rintro e w4 ⟨rfl, h1, h2⟩; have R4 := Lib.hid h1; have B4 := Lib.hid (B3.out.trans (h2.to S4.out.rx.bs)); clear h1 h2))
  have o1 := op_cl C2.out fk0
  have KO := Lib.hid (open_any (J := 0) R4.out (by omega) (op_few_cl C2.out fk0))
  rw [o1.1, o1.2.1] at KO
  unfold ptr at KO
  clear o1 KK
  go_upto_region 6 with (go_at_call 17; go_loud (
     refine KO.out.mono ?_
     rintro e w5 ⟨v, rfl, h1, h2, _, h4⟩
     obtain ⟨S', rfl, h5, _⟩ := h4 rfl
     have S5 := Lib.hid (show Sx T T S' 0 0 (1 + 2 + 2 + 0 + 1) w5 c2 from ⟨h1, h5⟩)
     have B5 := Lib.hid (B4.out.trans (h2.to R4.out.bs))
     clear h1 h2 h4 h5))
  have hrd : rdF c2 nB = some [121] := by
    rw [rd_look (by rw [C2.out.files]; exact fk0.srt), C2.out.down, C2.out.files]
    decide
  have KR := Lib.hid (read_s S5.out (by omega) nB)
  rw [if_neg (by decide), hrd] at KR
  unfold RdPost ptr at KR
  clear hrd KO
  go_upto_region 7 with (go_at_call 24; go_loud (
     refine KR.out.mono ?_
     rintro e w6 ⟨A6, m6, c6, rfl, h1, _, h3⟩
     obtain rfl : 1 = m6 := h1.1
     have Y6 := Lib.hid h1
     have S6 := Lib.hid (S5.out.go h3)
     have B6 := Lib.hid (up B5.out HT.out h3)
     clear h1 h3))
  have hcv := PkKit.BytesAt.conv Y6.out.at_ c6
  rw [show (⟨(Option.getD (some [121]) [] : List UInt8).toArray⟩ : ByteArray) = ⟨#[121]⟩ from rfl] at hcv
  have KM := Lib.hid (names_s S6.out (by omega) (by rw [C2.out.files]; decide))
  rw [C2.out.files, show (((d0.map (·.1)).map (·.data.toList)).filter fun x => !rq x).length = 2 by decide] at KM
  unfold DlPost ptr at KM
  have KB := Lib.hid (fun wx => bytes_any (cp := 1) (c_chs wx) (by simp) (Nat.zero_le _) (by omega) (fun c hc => by
    obtain rfl := List.mem_singleton.1 hc
    exact ⟨by show (1 : Nat) ≤ _; omega, by show (0 : Nat) ≤ _; omega⟩))
  unfold BsPost at KB
  rw [one_cut] at KB
  go_wp2_with (first
    | (go_at_call 25; go_loud (refine KM.out.mono ?_; rintro e w7 ⟨A7, c7, rfl, h3⟩; have B7 := Lib.hid (up B6.out HT.out h3); clear h3))
    | (go_at_call 13; go_loud (refine (KB.out _).mono ?_; rintro e w8 ⟨A8, c8, rfl, _, _, h3⟩; have B8 := Lib.hid (up (up B7.out HT.out (below_alloc _ _)) HT.out h3); clear h3)))
  go_ret
  exact ⟨rfl, B8.out⟩
end Go.Proofs.Ytolkghdeppoanaa.SwA
