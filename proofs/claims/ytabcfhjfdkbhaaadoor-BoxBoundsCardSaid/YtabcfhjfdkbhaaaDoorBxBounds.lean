/-
  BoxBounds: at the bounds a box may be, beyond them it may not: of words, of messages.
-/
import Derived.Test.YtabcfhjfdkbhaaaDoorBxAw
import Derived.Test.YtabcfhjfdkbhaaaDoorBxR
import Derived.Test.YtabcfhjfdkbhaaaDoorBxC
import Derived.Deep.DeepCutAuto
import Derived.Laws.IdiomStrings
import Derived.Laws.Rows
namespace Go.Proofs.YtabcfhjfdkbhaaaDoor.BxBounds
open Go.RowKit Go.Proofs.YtabcfhjfdkbhaaaDoor.BxD Go.Proofs.YtabcfhjfdkbhaaaDoor.BxKit Go.Proofs.YtabcfhjfdkbhaaaDoor.BxA Go.Proofs.YtabcfhjfdkbhaaaDoor.BxB Go.Proofs.YtabcfhjfdkbhaaaDoor.BxF Go.Proofs.YtabcfhjfdkbhaaaDoor.BxO Go.Proofs.YtabcfhjfdkbhaaaDoor.BxR Go.Proofs.YtabcfhjfdkbhaaaDoor.BxC Go.Proofs.YtabcfhjfdkbhaaaDoor.BxAw

/-- The i-th word, the i-th message. -/
def wd2 (i : Nat) : List UInt8 := [UInt8.ofNat (97 + i / 26), UInt8.ofNat (97 + i % 26)]
def wd (i : Nat) : ByteArray := ⟨#[119, UInt8.ofNat (97 + i / 26), UInt8.ofNat (97 + i % 26)]⟩
def wl (n : Nat) : List ByteArray := (List.range n).map wd
def mg (i : Nat) : Msg := ⟨(i : Int) + 1, 1, 0, ⟨#[120]⟩, 0, [], ⟨#[]⟩⟩
def ml (n : Nat) : List Msg := (List.range n).map mg
def rw_ (i : Nat) : Raw := ⟨mg i, none, 0⟩
def rl (n : Nat) : List Raw := (List.range n).map rw_
theorem words_ok : ∀ n, n < 65 → wordsB (wl n) = true := by decide +kernel
theorem wl_snoc (n : Nat) : wl (n + 1) = wl n ++ [wd n] := by unfold wl; rw [List.range_succ, List.map_append]; rfl
theorem rl_snoc (n : Nat) : rl (n + 1) = rl n ++ [rw_ n] := by unfold rl; rw [List.range_succ, List.map_append]; rfl
theorem rl_ml (n : Nat) : (rl n).map Raw.m = ml n := by unfold rl ml; rw [List.map_map]; rfl
theorem ml_at {n i : Nat} {m : Msg} (h : (ml n)[i]? = some m) : i < n ∧ m = mg i := by
  unfold ml at h
  rw [List.getElem?_map] at h
  rcases Nat.lt_or_ge i n with hi | hi
  · rw [List.getElem?_range hi] at h
    exact ⟨hi, (Option.some.inj h).symm⟩
  · rw [List.getElem?_eq_none (by simpa using hi)] at h; cases h
theorem mm_mg {k i : Nat} (h : i < 60) : mmB k (mg i) = true := by
  have h1 : inB 1 ((i : Int) + 1) 999999 = true := inB_true (by omega) (by omega)
  show (inB 1 ((i : Int) + 1) 999999 && (inB 1 1 1000000 && (inB 0 0 1000000 && (atB ⟨#[120]⟩ && (inB 0 0 31 && (keysB [] k && decide ((⟨#[]⟩ : ByteArray).size ≤ 300))))))) = true
  rw [h1]; rfl
theorem pu_ml {n i : Nat} (h : i < n) : pu (ml n) i = (i : Int) := by
  cases i with
  | zero => rfl
  | succ i =>
    have hi : (ml n)[i]? = some (mg i) := by
      unfold ml
      rw [List.getElem?_map, List.getElem?_range (by omega)]; rfl
    rw [pu_succ hi]
    show (i : Int) + 1 = ((i + 1 : Nat) : Int)
    omega
theorem msgs_ok {id : ByteArray} {v : Int} {ws : List ByteArray} {m : Nat} (h : m ≤ 60) : msgsB ⟨id, v, (m : Int) + 1, 1, ws, ml m⟩ = true := by
  refine msgsB_good (k := m) (by show (ml m).length ≤ m; unfold ml; simp) (fun i hi x hx => ?_)
  obtain ⟨_, rfl⟩ := ml_at hx
  refine ⟨mm_mg (by omega), ?_, ?_, ?_⟩
  · show pu (ml m) i < (i : Int) + 1
    rw [pu_ml hi]; omega
  · show (i : Int) + 1 < (m : Int) + 1; omega
  · show (1 : Int) ≤ 1; omega
theorem may_at {n m : Nat} (hm : m ≤ 999998) : mbE ⟨b1, 1, (m : Int) + 1, 1, wl n, ml m⟩ = if 64 < n ∨ 60 < m then 4 else 0 := by
  have hh : headB ⟨b1, 1, (m : Int) + 1, 1, wl n, ml m⟩ = true := head_good (show atB b1 = true by decide +kernel) (show b1.size ≤ 12 by decide) (show inB 1 1 1000000 = true by decide) (show inB 1 1 1000000 = true by decide) (inB_true (by show 1 ≤ (m : Int) + 1; omega) (by show (m : Int) + 1 ≤ 1000000; omega))
  have l1 : (wl n).length = n := by simp [wl]
  have l2 : (ml m).length = m := by simp [ml]
  by_cases h : 64 < n ∨ 60 < m
  · rw [if_pos h]
    exact mb_full hh (by show 64 < (wl n).length ∨ 60 < (ml m).length; rw [l1, l2]; exact h)
  · rw [if_neg h]
    rw [mb_msgs hh (by show ¬ (64 < (wl n).length ∨ 60 < (ml m).length); rw [l1, l2]; exact h) (words_ok n (by omega))]
    unfold BxW.msE
    rw [msgs_ok (by omega)]; rfl
theorem un_ml (n : Nat) : unI (ml n) = n := by
  unfold unI
  rw [List.filter_eq_self.2 (fun m hm => by
    obtain ⟨i, hi⟩ := List.mem_iff_getElem?.1 hm
    obtain ⟨_, rfl⟩ := ml_at hi
    show (bits .and .i64 0 8 == 0) = true
    decide +kernel)]
  simp [ml]

theorem bytes_lie (w : World) {k : Nat} (hk : k < 70) (j : Nat) (hj : j < (wd2 k).length) : (w.alloc (.cells #[.int .u8 (97 + (k : Int) / 26), .int .u8 (97 + (k : Int) % 26)] 5)).cell? ((⟨w.heap.size, 0, none⟩ : Addr).add j) = some (.int .u8 ((wd2 k)[j].toNat : Int)) := by
  rw [cell_new]
  have h1 : ∀ n, n < 256 → ((UInt8.ofNat n).toNat : Int) = (n : Int) := fun n hn => by show ((n % 256 : Nat) : Int) = n; rw [Nat.mod_eq_of_lt hn]
  match j, hj with
  | 0, _ =>
    show some (Value.int .u8 (97 + (k : Int) / 26)) = some (.int .u8 ((UInt8.ofNat (97 + k / 26)).toNat : Int))
    rw [h1 _ (by omega)]; congr 2
  | 1, _ =>
    show some (Value.int .u8 (97 + (k : Int) % 26)) = some (.int .u8 ((UInt8.ofNat (97 + k % 26)).toNat : Int))
    rw [h1 _ (by omega)]; congr 2
/-- The box in its block, its words and messages rows of the call's own. -/
structure In (w wr : World) (P : Nat) (nx : Int) (vw vm : Value) (n m : Nat) : Prop where
  bel : Below w.heap.size w wr
  low : w.heap.size ≤ P
  blk : wr.heap[P]? = some (.cells #[.string b1, .int .i64 1, .int .i64 nx, .int .i64 1, vw, vm] 25 (0, 0))
  ws : wr.ownsRow (P + 1) 9 1 vw n ((wl n).map Value.string)
  ms : wr.ownsRow (P + 1) 28 7 vm m (mc (rl m))
theorem In.lt {w wr : World} {P n m : Nat} {nx : Int} {vw vm : Value} (h : In w wr P nx vw vm n m) : P + 1 ≤ wr.heap.size := (Array.getElem?_eq_some_iff.1 h.blk).1
theorem In.cells {w wr : World} {P n m : Nat} {nx : Int} {vw vm : Value} (h : In w wr P nx vw vm n m) :
    wr.cell? { block := P, off := 0 } = some (.string b1) ∧ wr.cell? { block := P, off := 1 } = some (.int .i64 1) ∧ wr.cell? { block := P, off := 2 } = some (.int .i64 nx) ∧ wr.cell? { block := P, off := 3 } = some (.int .i64 1) ∧
      wr.cell? { block := P, off := 4 } = some vw ∧ wr.cell? { block := P, off := 5 } = some vm ∧ wr.frozen? { block := P, off := 4 } = false ∧ wr.frozen? { block := P, off := 5 } = false ∧ wr.frozen? { block := P, off := 2 } = false := by
  have c : ∀ o, wr.cell? { block := P, off := o } = (#[.string b1, .int .i64 1, .int .i64 nx, .int .i64 1, vw, vm] : Array Value)[o]? := fun o => cell_of_row wr P o _ _ _ h.blk
  refine ⟨(c 0).trans rfl, (c 1).trans rfl, (c 2).trans rfl, (c 3).trans rfl, (c 4).trans rfl, (c 5).trans rfl, ?_, ?_, ?_⟩
  all_goals simp [World.frozen?, h.blk]
theorem In.go {w wr w2 : World} {P n m : Nat} {nx : Int} {vw vm : Value} (h : In w wr P nx vw vm n m) (hb : Below wr.heap.size wr w2) : In w w2 P nx vw vm n m :=
  ⟨h.bel.trans (hb.mono h.bel.size), h.low, by rw [hb.block P h.lt]; exact h.blk, h.ws.kept (grown_below hb none) (by cases hv : vw.ownBlock <;> simp), h.ms.kept (grown_below hb none) (by cases hv : vm.ownBlock <;> simp)⟩
theorem In.alloc {w wr : World} {P n m : Nat} {nx : Int} {vw vm : Value} (h : In w wr P nx vw vm n m) (o : Obj) : In w (wr.alloc o) P nx vw vm n m := h.go ((Below.refl _ _).alloc (Nat.le_refl _) o)

section
variable {w wr w3 : World} {P n m : Nat} {nx : Int} {vw vm v' : Value}
theorem In.word (h : In w wr P nx vw vm n m) (hg : wr.grownBy w3 vw.ownBlock) (ho : w3.ownsRow (P + 1) 9 1 v' (n + 1) ((wl (n + 1)).map Value.string)) :
    w3.heap[P]? = some (.cells #[.string b1, .int .i64 1, .int .i64 nx, .int .i64 1, vw, vm] 25 (0, 0)) ∧ In w (w3.setCell { block := P, off := 4 } v') P nx v' vm (n + 1) m := by
  have hP := h.lt
  have e1 := (hg.block P (by omega) (fun e => by have := (h.ws.lt _ e.symm).1; omega)).trans h.blk
  refine ⟨e1, (h.bel.grown hg h.bel.size (fun g e => by have := (h.ws.lt g e).1; have := h.low; omega)).setCell (show w.heap.size ≤ P from h.low) _, h.low, by simp [World.setCell, Array.getElem?_modify, e1], ownsRow_setCell_below ho (by show P < _; omega) _, ownsRow_setCell_below (own_block h.ms fun g e => ?_) (by show P < _; omega) _⟩
  exact hg.block g (h.ms.lt g e).2 (fun e2 => own_ne h.ws h.ms e (by decide) e2.symm)
theorem In.msg (h : In w wr P nx vw vm n m) (hg : wr.grownBy w3 vm.ownBlock) (ho : w3.ownsRow (P + 1) 28 7 v' (m + 1) (mc (rl (m + 1)))) :
    w3.heap[P]? = some (.cells #[.string b1, .int .i64 1, .int .i64 nx, .int .i64 1, vw, vm] 25 (0, 0)) ∧ In w (w3.setCell { block := P, off := 5 } v') P nx vw v' n (m + 1) := by
  have hP := h.lt
  have e1 := (hg.block P (by omega) (fun e => by have := (h.ms.lt _ e.symm).1; omega)).trans h.blk
  refine ⟨e1, (h.bel.grown hg h.bel.size (fun g e => by have := (h.ms.lt g e).1; have := h.low; omega)).setCell (show w.heap.size ≤ P from h.low) _, h.low, by simp [World.setCell, Array.getElem?_modify, e1], ownsRow_setCell_below (own_block h.ws fun g e => ?_) (by show P < _; omega) _, ownsRow_setCell_below ho (by show P < _; omega) _⟩
  exact hg.block g (h.ws.lt g e).2 (fun e2 => own_ne h.ms h.ws e (by decide) e2.symm)
theorem In.next (h : In w wr P nx vw vm n m) (x : Int) : In w (wr.setCell { block := P, off := 2 } (.int .i64 x)) P x vw vm n m := by
  refine ⟨h.bel.setCell (show w.heap.size ≤ P from h.low) _, h.low, by simp [World.setCell, Array.getElem?_modify, h.blk], ownsRow_setCell_below h.ws (by show P < _; omega) _, ownsRow_setCell_below h.ms (by show P < _; omega) _⟩
theorem blk_free (h : wr.heap[P]? = some (.cells #[.string b1, .int .i64 1, .int .i64 nx, .int .i64 1, vw, vm] 25 (0, 0))) : wr.cell? { block := P, off := 4 } = some vw ∧ wr.cell? { block := P, off := 5 } = some vm ∧ wr.frozen? { block := P, off := 4 } = false ∧ wr.frozen? { block := P, off := 5 } = false := by
  have c : ∀ o, wr.cell? { block := P, off := o } = (#[.string b1, .int .i64 1, .int .i64 nx, .int .i64 1, vw, vm] : Array Value)[o]? := fun o => cell_of_row wr P o _ _ _ h
  exact ⟨(c 4).trans rfl, (c 5).trans rfl, by simp [World.frozen?, h], by simp [World.frozen?, h]⟩
theorem keys_rl (w : World) (B m : Nat) : KeysOk w B (rl m) := by
  intro r hr
  unfold rl at hr
  obtain ⟨i, _, rfl⟩ := List.mem_map.1 hr
  exact ⟨RowAt.nil _ _ _ _ _, Nat.le_refl _, show (1 : Nat) ≤ 140737488355328 by decide, show (0 : Nat) ≤ 140737488355328 by decide⟩
end
theorem seventy (x : Int) : ∃ n : Nat, n < 70 ∧ wrap64 ((IntKind.u64.wrap x).tmod 70) = (n : Int) := by
  have h0 : 0 ≤ IntKind.u64.wrap x := by
    rw [show IntKind.u64.wrap x = x % 18446744073709551616 from rfl]
    exact Int.emod_nonneg _ (by decide)
  have h1 := Int.tmod_nonneg 70 h0
  have h2 := Int.tmod_lt_of_pos (IntKind.u64.wrap x) (show (0 : Int) < 70 by decide)
  refine ⟨((IntKind.u64.wrap x).tmod 70).toNat, by omega, ?_⟩
  rw [Int.toNat_of_nonneg h1]
  unfold wrap64
  omega
theorem two_bytes (a b : UInt8) : (⟨#[119]⟩ ++ ⟨#[a, b]⟩ : ByteArray) = ⟨#[119, a, b]⟩ := ByteArray.ext (by simp)

set_option maxHeartbeats 4000000 in
set_option maxRecDepth 100000 in
theorem walk {x y : Int} {w : World} (ht : Tab w) :
    Calls Tryd.prog 6 #[.int .i64 x, .int .i64 y] w fun e w' => e = .returned (.bool true) ∧ Below w.heap.size w w' := by
  obtain ⟨n, hn, hnx⟩ := seventy x
  obtain ⟨m, hm, hmx⟩ := seventy y
  have HAW := Lib.hid (fun (wr : World) (h : Below w.heap.size w wr) => awake (ht.below h (Nat.le_refl _)))
  clear ht
  go_enter Tryd.func6, Tryd.ntmps6
  go_wp2_with fail
  refine (empty_any _ _ _).mono ?_
  rintro e w1 ⟨rfl, hb⟩
  have HB := Lib.hid hb
  clear hb
  go_wp2_with fail
  have H0 := Lib.hid (show In w (w1.alloc (.cells #[.string ⟨#[98, 49]⟩, .int .i64 1, .int .i64 1, .int .i64 1, .slice none 0 0, .slice none 0 0] 25)) w1.heap.size 1 (.slice none 0 0) (.slice none 0 0) 0 0 from
    ⟨HB.out.alloc HB.out.size _, HB.out.size, heap_alloc_new w1 _, World.ownsRow_nil _ _ _ _, World.ownsRow_nil _ _ _ _⟩)
  obtain ⟨P, hP⟩ : ∃ P, P = w1.heap.size := ⟨_, rfl⟩
  rw [← hP] at H0 ⊢
  clear hP HB
  generalize (World.alloc w1 _) = W at H0 ⊢
  go_loopw [19] (fun s19 wr => ∃ (k : Nat) (v : Value), k ≤ n ∧ s19 = .int .i64 k ∧ Hid (In w wr P 1 v (.slice none 0 0) k 0)) (fun s19 _ => n - (intOf s19).toNat)
  case atStart => exact ⟨0, _, Nat.zero_le _, rfl, H0⟩
  case round =>
    clear H0
    obtain ⟨k, v, hk, rfl, HI⟩ := hrel
    by_cases hlt : k < n
    · obtain ⟨b0, b1_, b2, b3, b4, b5, f4, f5, f2⟩ := HI.out.cells
      obtain ⟨T, hcv, hT, hTz⟩ : ∃ T : ByteArray, (convert 44 9 (.slice (some { block := wr.heap.size, off := 0 }) 2 2)).run Tryd.prog (wr.alloc (.cells #[.int .u8 (97 + (k : Int) / 26), .int .u8 (97 + (k : Int) % 26)] 5)) = .ok (.string T) (wr.alloc (.cells #[.int .u8 (97 + (k : Int) / 26), .int .u8 (97 + (k : Int) % 26)] 5)) ∧ (⟨#[119]⟩ ++ T : ByteArray) = wd k ∧ T.size = 2 :=
        ⟨_, run_convert_bytes_back (P := Tryd.prog) (wr.alloc (.cells #[.int .u8 (97 + (k : Int) / 26), .int .u8 (97 + (k : Int) % 26)] 5)) 44 9 5 ⟨wr.heap.size, 0, none⟩ 2 (wd2 k) rfl rfl rfl (bytes_lie wr (by omega)), two_bytes _ _, rfl⟩
      have HO1 := Lib.hid ((HI.out.alloc (.cells #[.int .u8 (97 + (k : Int) / 26), .int .u8 (97 + (k : Int) % 26)] 5)).alloc (.cells #[.string (⟨#[119]⟩ ++ T)] 9))
      have HSR := Lib.hid (src_new (wr.alloc (.cells #[.int .u8 (97 + (k : Int) / 26), .int .u8 (97 + (k : Int) % 26)] 5)) #[.string (⟨#[119]⟩ ++ T)] 9 (b := wr.heap.size + 1) (m := 1) (sz := 1) (by simp) rfl (fun u hu => by simp at hu; subst hu; rfl))
      have hz := HO1.out.lt
      have HT := Lib.hid hT
      clear hT
      go_wp2_with (at_builtin; refine wpList_rows elS rfl _ _ rfl rfl rfl HO1.out.ws HSR.out (by unfold maxLen; omega) (by omega) hz ?_; intro v' w3 hown3 hg3 _; obtain ⟨A', c', rfl, _⟩ := own_slice hown3; obtain ⟨hblk, hnew⟩ := HO1.out.word hg3 (by rw [wl_snoc, List.map_append, ← HT.out]; exact hown3); have HN := Lib.hid hnew; obtain ⟨c4, c5, g4, g5⟩ := blk_free hblk; clear hown3 hg3 hblk hnew hcv)
      go_roundw
      case rel => exact ⟨k + 1, _, by omega, by go_num, HN⟩
      case measure => simp [intOf]; omega
    · obtain rfl : n = k := by omega
      go_wp2_with fail
      go_loopw [40] (fun s40 wr => ∃ (k : Nat) (vm : Value), k ≤ m ∧ s40 = .int .i64 k ∧ Hid (In w wr P 1 v vm n k)) (fun s40 _ => m - (intOf s40).toNat)
      case atStart => exact ⟨0, _, Nat.zero_le _, rfl, HI⟩
      case round =>
        clear HI
        obtain ⟨k, vm, hk, rfl, HI⟩ := hrel
        obtain ⟨b0, b1_, b2, b3, b4, b5, f4, f5, f2⟩ := HI.out.cells
        by_cases hlt : k < m
        · have HO1 := Lib.hid (HI.out.alloc (.cells #[.int .i64 ((k : Int) + 1), .int .i64 1, .int .i64 0, .string ⟨#[120]⟩, .int .i64 0, .slice none 0 0, .string ⟨#[]⟩] 28))
          have HSR := Lib.hid (src_new wr #[.int .i64 ((k : Int) + 1), .int .i64 1, .int .i64 0, .string ⟨#[120]⟩, .int .i64 0, .slice none 0 0, .string ⟨#[]⟩] 28 (b := wr.heap.size) (m := 1) (sz := 7) rfl rfl (fun u hu => by simp at hu; rcases hu with rfl | rfl | rfl | rfl | rfl | rfl | rfl <;> rfl))
          have hz := HO1.out.lt
          go_wp2_with (at_builtin; refine wpList_rows elM rfl _ _ rfl rfl rfl HO1.out.ms HSR.out (by unfold maxLen; omega) (by omega) hz ?_; intro v' w3 hown3 hg3 _; obtain ⟨A', c', rfl, _⟩ := own_slice hown3; obtain ⟨hblk, hnew⟩ := HO1.out.msg hg3 (by rw [rl_snoc, mc_append]; exact hown3); have HN := Lib.hid hnew; obtain ⟨c4, c5, g4, g5⟩ := blk_free hblk; clear hown3 hg3 hblk hnew)
          go_roundw
          case rel => exact ⟨k + 1, _, by omega, by go_num, HN⟩
          case measure => simp [intOf]; omega
        · obtain rfl : m = k := by omega
          have HN := Lib.hid (HI.out.next ((m : Int) + 1))
          go_upto_region 14 with fail
          clear HI b0 b1_ b2 b3 b4 b5 f4 f5 f2
          generalize (World.setCell wr _ _) = W3 at HN ⊢
          obtain ⟨A1, c1, rfl, hk1⟩ := own_slice HN.out.ws
          obtain ⟨A2, c2, rfl, hk2⟩ := own_slice HN.out.ms
          obtain ⟨b0, b1_, b2, b3, b4, b5, f4, f5, f2⟩ := HN.out.cells
          have hst := strsAt_own HN.out.ws (by omega) (fun x hx => by unfold wl at hx; obtain ⟨i, _, rfl⟩ := List.mem_map.1 hx; show 3 ≤ _; omega)
          have hms := msgsAt_own HN.out.ms (by omega) (keys_rl _ _ _)
          rw [rl_ml] at hms
          have hmay := may_box (bid := b1) (bv := 1) (bn := (m : Int) + 1) (bh := 1) (wc := c1) (mc := c2) hst hms (Nat.le_refl _) hk1
          rw [may_at (n := n) (m := m) (by omega)] at hmay
          have hun := fun (wr : World) (h : Below W3.heap.size W3 wr) => unseen_any (bid := b1) (bv := 1) (bn := (m : Int) + 1) (bh := 1) (WA := A1) (wn := n) (wc := c1) (mc := c2) (MsgsAt.below hms h (Nat.le_refl _)) h.size
          rw [un_ml] at hun
          have HU := Lib.hid hun
          have HNB := Lib.hid (fun (wr : World) (h : Below W3.heap.size W3 wr) => (HN.out.go h).cells)
          have HBL := Lib.hid (fun (wr : World) (h : Below W3.heap.size W3 wr) => HN.out.bel.trans (h.mono HN.out.bel.size))
          clear hst hms hun
          by_cases h1 : 64 < n
          · rw [if_pos (.inl h1)] at hmay
            have HM := Lib.hid hmay
            have h1' : (64 : Int) < n := by omega
            clear hmay h1
            go_wp2_with fail
            refine HM.out.mono ?_
            rintro e w4 ⟨rfl, hb4⟩
            have H4 := Lib.hid hb4
            clear hb4 b0 b1_ b2 b3 b4 b5 f4 f5 f2
            obtain ⟨b0, b1_, b2, b3, b4, b5, f4, f5, f2⟩ := HNB.out _ H4.out
            have K := Lib.hid (HU.out _ H4.out)
            go_wp2_with fail
            refine K.out.mono ?_
            rintro e w5 ⟨rfl, hb5⟩
            have H5 := Lib.hid (HBL.out _ (H4.out.trans (hb5.mono H4.out.size)))
            clear hb5
            go_wp2_with (go_at_call 10; refine (HAW.out _ H5.out).mono ?_; rintro e w6 ⟨rfl, hb6⟩)
            go_ret
            exact ⟨rfl, H5.out.trans (hb6.mono H5.out.size)⟩
          have h1' : (n : Int) ≤ 64 := by omega
          by_cases h2 : 60 < m
          · rw [if_pos (.inr h2)] at hmay
            have HM := Lib.hid hmay
            have h2' : (60 : Int) < m := by omega
            clear hmay h1 h2
            go_wp2_with fail
            refine HM.out.mono ?_
            rintro e w4 ⟨rfl, hb4⟩
            have H4 := Lib.hid hb4
            clear hb4 b0 b1_ b2 b3 b4 b5 f4 f5 f2
            obtain ⟨b0, b1_, b2, b3, b4, b5, f4, f5, f2⟩ := HNB.out _ H4.out
            have K := Lib.hid (HU.out _ H4.out)
            go_wp2_with fail
            refine K.out.mono ?_
            rintro e w5 ⟨rfl, hb5⟩
            have H5 := Lib.hid (HBL.out _ (H4.out.trans (hb5.mono H4.out.size)))
            clear hb5
            go_wp2_with (go_at_call 10; refine (HAW.out _ H5.out).mono ?_; rintro e w6 ⟨rfl, hb6⟩)
            go_ret
            exact ⟨rfl, H5.out.trans (hb6.mono H5.out.size)⟩
          · rw [if_neg (by omega)] at hmay
            have HM := Lib.hid hmay
            have h2' : (m : Int) ≤ 60 := by omega
            clear hmay h1 h2
            go_wp2_with fail
            refine HM.out.mono ?_
            rintro e w4 ⟨rfl, hb4⟩
            have H4 := Lib.hid hb4
            clear hb4 b0 b1_ b2 b3 b4 b5 f4 f5 f2
            obtain ⟨b0, b1_, b2, b3, b4, b5, f4, f5, f2⟩ := HNB.out _ H4.out
            have K := Lib.hid (HU.out _ H4.out)
            go_wp2_with fail
            refine K.out.mono ?_
            rintro e w5 ⟨rfl, hb5⟩
            have H5 := Lib.hid (HBL.out _ (H4.out.trans (hb5.mono H4.out.size)))
            clear hb5
            go_wp2_with (go_at_call 10; refine (HAW.out _ H5.out).mono ?_; rintro e w6 ⟨rfl, hb6⟩)
            go_ret
            exact ⟨rfl, H5.out.trans (hb6.mono H5.out.size)⟩
end Go.Proofs.YtabcfhjfdkbhaaaDoor.BxBounds
