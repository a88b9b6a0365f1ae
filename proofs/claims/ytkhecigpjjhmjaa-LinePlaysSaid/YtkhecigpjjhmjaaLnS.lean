/-
  A line of texts: what New, Put, Take, Len and Room do.
-/
import Derived.Test.YtkhecigpjjhmjaaKit
import Derived.Test.YtkhecigpjjhmjaaChecked
import Derived.WalkKit
import Derived.Deep.QuietTactic
import Derived.BigQuiet
namespace Go.Proofs.Ytkhecigpjjhmjaa.LS
open Go.RowKit Go.Conc Go.Proofs.Ytkhecigpjjhmjaa.Kit

abbrev L (w : World) (T c room : Nat) (bs : List Nat) (xs : List Value) : Prop := Ln w 50 9 T c room bs xs
def rm (most : Int) : Nat := (max 0 (min most 1000)).toNat

theorem bytes : ∃ i, Try.prog.info? 51 = some i ∧ i.bytes = 8 := by
  have h : (Try.prog.info? 51).map (·.bytes) = some 8 := by kernel_rfl
  obtain ⟨i, hi, hb⟩ := Option.map_eq_some_iff.1 h
  exact ⟨i, hi, hb⟩
theorem mk (w : World) (n : Nat) (hn : n ≤ 1000) (i : Int) (hi : i = n) : (Instr.makeChan 48 (.int .i64 i)).run Try.prog w = .ok (.chan (some w.heap.size)) (w.alloc (.chan n #[] false 0 0 false)) := by
  subst hi
  obtain ⟨i, hi, hb⟩ := bytes
  simpa using run_makeChan (P := Try.prog) (w := w) Try.underlying48 hi .i64 n (by omega) (by rw [hb]; omega)

theorem new_ln (w : World) (n : Nat) (hn : n ≤ 1000) (i : Int) (hi : i = n) : L ((w.alloc (.chan n #[] false 0 0 false)).alloc (.cells #[.int .i64 i, .chan (some w.heap.size)] 50)) (w.heap.size + 1) w.heap.size n [] [] := by
  subst hi
  refine ⟨hn, rfl, Nat.zero_le _, ?_, ⟨0, 0, ?_⟩, fun i b x hi _ => by simp at hi⟩
  · have := heap_alloc_new (w.alloc (.chan n #[] false 0 0 false)) (.cells #[.int .i64 n, .chan (some w.heap.size)] 50)
    simpa only [World.size_alloc] using this
  · rw [Below.heap_alloc _ _ _ (by simp)]
    exact heap_alloc_new w _
theorem new_below (w : World) (o o' : Obj) : Below w.heap.size w ((w.alloc o).alloc o') := ((Below.refl _ _).alloc (Nat.le_refl _) _).alloc (by simp) _

set_option maxHeartbeats 400000 in
theorem new (most : Int) (w : World) :
    Calls Try.prog 14 #[.int .i64 most] w fun e w' => e = .returned (ptr (w.heap.size + 1)) ∧ L w' (w.heap.size + 1) w.heap.size (rm most) [] [] ∧ Below w.heap.size w w' := by
  by_cases h0 : most ≤ 0
  · have hr : rm most = 0 := by unfold rm; omega
    rw [hr]
    have HL := Lib.hid (new_ln w 0 (by omega) 0 rfl)
    have hmc := mk w 0 (by omega) 0 rfl
    clear hr
    rcases Int.lt_or_eq_of_le h0 with h0 | rfl
    all_goals
      go_enter Try.func14, Try.ntmps14
      go_wp2
      go_ret
      exact ⟨rfl, HL.out, new_below _ _ _⟩
  · by_cases h1 : most ≤ 1000
    · obtain ⟨n, rfl⟩ : ∃ n : Nat, most = n := ⟨most.toNat, by omega⟩
      have hr : rm n = n := by unfold rm; omega
      rw [hr]
      have HL := Lib.hid (new_ln w n (by omega) n rfl)
      have hmc := mk w n (by omega) n rfl
      clear hr
      go_enter Try.func14, Try.ntmps14
      go_wp2
      all_goals (go_ret; exact ⟨rfl, HL.out, new_below _ _ _⟩)
    · have hr : rm most = 1000 := by unfold rm; omega
      rw [hr]
      have HL := Lib.hid (new_ln w 1000 (by omega) 1000 rfl)
      have hmc := mk w 1000 (by omega) 1000 rfl
      clear hr
      go_enter Try.func14, Try.ntmps14
      go_wp2
      all_goals (go_ret; exact ⟨rfl, HL.out, new_below _ _ _⟩)

theorem len_ {w : World} {T c room : Nat} {bs : List Nat} {xs : List Value} (h : L w T c room bs xs) :
    Calls Try.prog 16 #[ptr T] w fun e w' => e = .returned (.int .i64 (xs.length : Nat)) ∧ w = w' := by
  obtain ⟨s, r, hch⟩ := h.chan
  have hl : ((bs.map ptr).toArray.size : Int) = (xs.length : Int) := by simp [h.len]
  have hc1 := h.cellT1
  have hln := fun ty => run_len_chan (P := Try.prog) 48 ty Try.underlying48 hch
  clear h hch
  unfold ptr
  unfold goInt at hln
  rw [hl] at hln
  clear hl
  go_enter Try.func16, Try.ntmps16
  go_wp2
  go_ret
  exact ⟨rfl, rfl⟩

set_option maxHeartbeats 400000 in
theorem room_ {w : World} {T c room : Nat} {bs : List Nat} {xs : List Value} (h : L w T c room bs xs) :
    Calls Try.prog 18 #[ptr T] w fun e w' => e = .returned (.int .i64 (((room - xs.length : Nat) : Nat) : Int)) ∧ Below w.heap.size w w' := by
  obtain ⟨s, r, hch⟩ := h.chan
  have hl : ((bs.map ptr).toArray.size : Int) = (xs.length : Int) := by simp [h.len]
  have hc1 := h.cellT1
  have hc0 := h.cellT0
  have hle := h.le
  have hrm := h.room_le
  have hln := fun ty => run_len_chan (P := Try.prog) (w := w.drew) 48 ty Try.underlying48 hch
  clear h hch
  unfold ptr
  unfold goInt at hln
  rw [hl] at hln
  clear hl
  have hs : IntKind.i64.wrap ((room : Int) - (xs.length : Int)) = (((room - xs.length : Nat) : Nat) : Int) := by rw [IntWalk.i64_in _ (by omega)]; omega
  go_enter Try.func18, Try.ntmps18
  go_wp2
  go_region
  all_goals (go_wp2; go_ret; exact ⟨by first | rw [hs] | rfl, (Below.refl _ _).drew⟩)

set_option maxRecDepth 100000 in
set_option maxHeartbeats 400000 in
theorem put_room {w : World} {T c room : Nat} {bs : List Nat} {xs : List Value} (h : L w T c room bs xs) (hr : xs.length < room) (x : ByteArray) :
    Calls Try.prog 15 #[ptr T, (Value.string (x))] w fun e w' => e = .returned (.bool true) ∧ L w' T c room (bs ++ [w.heap.size]) (xs ++ [(Value.string (x))]) ∧ w.grownBy w' (some c) := by
  obtain ⟨s, r, hch⟩ := h.chan
  have hw1 := h.below ((Below.refl _ _).alloc (Nat.le_refl _) (.cells #[(Value.string (x))] 9))
  have hc1 := hw1.cellT1
  have hch1 : (w.alloc (.cells #[(Value.string (x))] 9)).heap[c]? = some (Obj.chan room (bs.map ptr).toArray false s r false) := by
    rw [Below.heap_alloc _ _ _ h.c_lt]; exact hch
  have hsz : (bs.map ptr).toArray.size < room := by simp [h.len, hr]
  have HP := h.put (Value.string (x)) hr (s := s + 1) (r := r)
  have HG := (grown_trans (grown_below (row := some c) ((Below.refl w.heap.size w).alloc (Nat.le_refl _) (.cells #[(Value.string (x))] 9))) (grown_setChan _ c room ((bs.map ptr).toArray.push (ptr w.heap.size)) false (s + 1) r false))
  simp only [List.push_toArray] at HP HG
  replace HP := Lib.hid HP
  replace HG := Lib.hid HG
  have HC := Lib.hid hch1
  have HS := Lib.hid hsz
  clear h hch hw1 hch1 hsz hr
  have ep : ptr T = .pointer (some ⟨T, 0, none⟩) := rfl
  rw [ep]
  clear ep
  refine calls_of_loneTo fun cs => ?_
  have e : Frame.enter Try.prog 15 #[.pointer (some ⟨T, 0, none⟩), (Value.string (x))] .normal = (base 15).at ⟨#[.pointer (some ⟨T, 0, none⟩), (Value.string (x)), undef, undef, undef, undef, undef, undef, undef, undef, undef, undef, undef, undef], []⟩ [.code (Try.f15.body.getD .skip)] := by
    simp [Frame.enter, Frame.at, Try.func15, base, Try.f15]
  rw [e]
  clear e
  refine LoneTo.goes (n := 40) ?_
  simp only [Try.f15, Option.getD_some]
  s_c stepG_seq
  s_reg
  s_op
  s_op
  s_c stepG_region_end
  s_c stepG_seq
  s_c stepG_seq
  s_reg
  s_op
  s_op
  s_c stepG_region_end
  s_cond false
  s_c stepG_skip
  s_c stepG_seq
  s_reg
  s_op
  s_op
  s_op
  s_op
  s_c stepG_region_end
  s_c stepG_seq
  s_reg
  s_stop
  refine LoneTo.step (step_lone_select_send_room (c := c) (cap := room) (buf := (bs.map ptr).toArray) (s := s) (r := r) (tm := false) (stepG_comm (cases := #[scase c (ptr w.heap.size) (.pointer none)]) (blocking := false) (shape := .select) (w' := w.alloc (.cells #[(Value.string (x))] 9)) rfl rfl (by decide) (by simp [go_sem, execOp, scase, Act.eval, ptr])) HC.out HS.out) ?_
  rw [Frame.finish_at]
  walk_nrm
  refine LoneTo.goes (n := 20) ?_
  s_op
  s_op
  s_c stepG_region_end
  s_c stepG_block
  s_cond true
  s_c stepG_seq
  s_reg
  s_op
  s_c stepG_region_end
  s_c stepG_ret'
  s_stop
  exact LoneTo.done ⟨.returned (.bool true), _, rfl, ⟨rfl, HP.out, HG.out⟩, rfl, rfl, rfl, rfl, _, Try.func15, by simp [results, Try.f15, Frame.at]⟩

set_option maxRecDepth 100000 in
set_option maxHeartbeats 400000 in
theorem put_full {w : World} {T c room : Nat} {bs : List Nat} {xs : List Value} (h : L w T c room bs xs) (hr : room ≤ xs.length) (x : ByteArray) :
    Calls Try.prog 15 #[ptr T, (Value.string (x))] w fun e w' => e = .returned (.bool false) ∧ Below w.heap.size w w' := by
  obtain ⟨s, r, hch⟩ := h.chan
  have hw1 := h.below ((Below.refl _ _).alloc (Nat.le_refl _) (.cells #[(Value.string (x))] 9))
  have hc1 := hw1.cellT1
  have hch1 : (w.alloc (.cells #[(Value.string (x))] 9)).heap[c]? = some (Obj.chan room (bs.map ptr).toArray false s r false) := by
    rw [Below.heap_alloc _ _ _ h.c_lt]; exact hch
  have hsz : room ≤ (bs.map ptr).toArray.size := by simp [h.len, hr]
  have HC := Lib.hid hch1
  have HS := Lib.hid hsz
  clear h hch hw1 hch1 hsz hr
  have ep : ptr T = .pointer (some ⟨T, 0, none⟩) := rfl
  rw [ep]
  clear ep
  refine calls_of_loneTo fun cs => ?_
  have e : Frame.enter Try.prog 15 #[.pointer (some ⟨T, 0, none⟩), (Value.string (x))] .normal = (base 15).at ⟨#[.pointer (some ⟨T, 0, none⟩), (Value.string (x)), undef, undef, undef, undef, undef, undef, undef, undef, undef, undef, undef, undef], []⟩ [.code (Try.f15.body.getD .skip)] := by
    simp [Frame.enter, Frame.at, Try.func15, base, Try.f15]
  rw [e]
  clear e
  refine LoneTo.goes (n := 40) ?_
  simp only [Try.f15, Option.getD_some]
  s_c stepG_seq
  s_reg
  s_op
  s_op
  s_c stepG_region_end
  s_c stepG_seq
  s_c stepG_seq
  s_reg
  s_op
  s_op
  s_c stepG_region_end
  s_cond false
  s_c stepG_skip
  s_c stepG_seq
  s_reg
  s_op
  s_op
  s_op
  s_op
  s_c stepG_region_end
  s_c stepG_seq
  s_reg
  s_stop
  refine LoneTo.step (step_lone_select_send_full (c := c) (cap := room) (buf := (bs.map ptr).toArray) (s := s) (r := r) (tm := false) (stepG_comm (cases := #[scase c (ptr w.heap.size) (.pointer none)]) (blocking := false) (shape := .select) (w' := w.alloc (.cells #[(Value.string (x))] 9)) rfl rfl (by decide) (by simp [go_sem, execOp, scase, Act.eval, ptr])) HC.out HS.out) ?_
  rw [Frame.finish_at]
  walk_nrm
  refine LoneTo.goes (n := 20) ?_
  s_op
  s_op
  s_c stepG_region_end
  s_c stepG_block
  s_cond false
  s_c stepG_seq
  s_reg
  s_op
  s_c stepG_region_end
  s_c stepG_ret'
  s_stop
  exact LoneTo.done ⟨.returned (.bool false), _, rfl, ⟨rfl, (Below.refl _ _).alloc (Nat.le_refl _) _⟩, rfl, rfl, rfl, rfl, _, Try.func15, by simp [results, Try.f15, Frame.at]⟩

set_option maxRecDepth 100000 in
set_option maxHeartbeats 400000 in
theorem take_some {w : World} {T c room : Nat} {b : Nat} {bs : List Nat} {x : ByteArray} {xs : List Value} (h : L w T c room (b :: bs) ((Value.string (x)) :: xs)) :
    Calls Try.prog 17 #[ptr T] w fun e w' => e = .returned (.tuple #[(Value.string (x)), .bool true]) ∧ L w' T c room bs xs ∧ w.grownBy w' (some c) := by
  obtain ⟨s, r, hch⟩ := h.chan
  have hc1 := h.cellT1
  have hsz : 0 < ((b :: bs).map ptr).toArray.size := by simp
  have HP := Lib.hid (h.take (s := s) (r := r + 1))
  have HG := Lib.hid (grown_setChan w c room (((b :: bs).map ptr).toArray.extract 1 ((b :: bs).map ptr).toArray.size) false s (r + 1) false)
  have hcb : (w.setChan c room (((b :: bs).map ptr).toArray.extract 1 ((b :: bs).map ptr).toArray.size) false s (r + 1) false).cell? ⟨b, 0, none⟩ = some (Value.string (x)) := by
    have h1 := HG.out.block b (h.mem_lt (List.mem_cons_self ..)) (fun e => h.mem_ne (List.mem_cons_self ..) (by injection e))
    rw [World.cell?_of_block (w := w) (a := ⟨b, 0, none⟩) h1]
    exact h.cellB (i := 0) rfl rfl
  have HC := Lib.hid hch
  have HS := Lib.hid hsz
  have HCB := Lib.hid hcb
  clear h hch hsz hcb
  have ep : ptr T = .pointer (some ⟨T, 0, none⟩) := rfl
  rw [ep]
  clear ep
  refine calls_of_loneTo fun cs => ?_
  have e : Frame.enter Try.prog 17 #[.pointer (some ⟨T, 0, none⟩)] .normal = (base 17).at ⟨#[.pointer (some ⟨T, 0, none⟩), undef, undef, undef, undef, undef, undef, undef, undef, undef, undef, undef, undef, undef, undef, undef, undef, undef, undef, undef], []⟩ [.code (Try.f17.body.getD .skip)] := by
    simp [Frame.enter, Frame.at, Try.func17, base, Try.f17]
    try rfl
  rw [e]
  clear e
  refine LoneTo.goes (n := 40) ?_
  simp only [Try.f17, Option.getD_some]
  s_c stepG_seq
  s_reg
  s_op
  s_op
  s_c stepG_region_end
  s_c stepG_seq
  s_c stepG_seq
  s_reg
  s_op
  s_op
  s_c stepG_region_end
  s_cond false
  s_c stepG_skip
  s_c stepG_seq
  s_reg
  s_op
  s_op
  s_op
  s_op
  s_c stepG_region_end
  s_c stepG_seq
  s_reg
  s_stop
  refine LoneTo.step (step_lone_select_recv_buf (c := c) (z := .pointer none) (cap := room) (buf := ((b :: bs).map ptr).toArray) (closed := false) (s := s) (r := r) (tm := false) (stepG_comm (cases := #[rcase c (.pointer none)]) (blocking := false) (shape := .select) (w' := w) rfl rfl (by decide) (by simp [go_sem, execOp, rcase, Act.eval])) HC.out HS.out) ?_
  rw [Frame.finish_at]
  have e0 : ((b :: bs).map ptr).toArray.getD 0 undef = .pointer (some ⟨b, 0, none⟩) := rfl
  rw [e0]
  clear e0 HC HS hc1
  generalize w.setChan c room (((b :: bs).map ptr).toArray.extract 1 ((b :: bs).map ptr).toArray.size) false s (r + 1) false = w1 at HP HG HCB ⊢
  have hcb := HCB.out
  walk_nrm
  refine LoneTo.goes (n := 30) ?_
  s_op
  s_op
  s_c stepG_region_end
  s_c stepG_block
  s_cond true
  s_c stepG_seq
  s_reg
  s_op
  s_op
  s_c stepG_region_end
  s_c stepG_seq
  s_reg
  s_op
  s_op
  s_op
  s_op
  s_op
  s_c stepG_region_end
  s_c stepG_ret'
  s_stop
  exact LoneTo.done ⟨.returned (.tuple #[(Value.string (x)), .bool true]), _, rfl, ⟨rfl, HP.out, HG.out⟩, rfl, rfl, rfl, rfl, _, Try.func17, by simp [results, Try.f17, Frame.at]⟩

set_option maxRecDepth 100000 in
set_option maxHeartbeats 400000 in
theorem take_none {w : World} {T c room : Nat} {bs : List Nat} (h : L w T c room bs []) :
    Calls Try.prog 17 #[ptr T] w fun e w' => e = .returned (.tuple #[(.string ⟨#[]⟩), .bool false]) ∧ w = w' := by
  obtain ⟨s, r, hch⟩ := h.chan
  have hc1 := h.cellT1
  obtain rfl : bs = [] := List.eq_nil_of_length_eq_zero h.len
  simp only [List.map_nil] at hch
  have HC := Lib.hid hch
  clear h hch
  have ep : ptr T = .pointer (some ⟨T, 0, none⟩) := rfl
  rw [ep]
  clear ep
  refine calls_of_loneTo fun cs => ?_
  have e : Frame.enter Try.prog 17 #[.pointer (some ⟨T, 0, none⟩)] .normal = (base 17).at ⟨#[.pointer (some ⟨T, 0, none⟩), undef, undef, undef, undef, undef, undef, undef, undef, undef, undef, undef, undef, undef, undef, undef, undef, undef, undef, undef], []⟩ [.code (Try.f17.body.getD .skip)] := by
    simp [Frame.enter, Frame.at, Try.func17, base, Try.f17]
    try rfl
  rw [e]
  clear e
  refine LoneTo.goes (n := 40) ?_
  simp only [Try.f17, Option.getD_some]
  s_c stepG_seq
  s_reg
  s_op
  s_op
  s_c stepG_region_end
  s_c stepG_seq
  s_c stepG_seq
  s_reg
  s_op
  s_op
  s_c stepG_region_end
  s_cond false
  s_c stepG_skip
  s_c stepG_seq
  s_reg
  s_op
  s_op
  s_op
  s_op
  s_c stepG_region_end
  s_c stepG_seq
  s_reg
  s_stop
  refine LoneTo.step (step_lone_select_default (c := c) (z := .pointer none) (cap := room) (s := s) (r := r) (tm := false) (stepG_comm (cases := #[rcase c (.pointer none)]) (blocking := false) (shape := .select) (w' := w) rfl rfl (by decide) (by simp [go_sem, execOp, rcase, Act.eval])) HC.out) ?_
  rw [Frame.finish_at]
  walk_nrm
  refine LoneTo.goes (n := 30) ?_
  s_op
  s_op
  s_c stepG_region_end
  s_c stepG_block
  s_cond false
  s_c stepG_seq
  s_reg
  s_op
  s_op
  s_op
  s_c stepG_region_end
  s_c stepG_ret'
  s_stop
  exact LoneTo.done ⟨.returned (.tuple #[(.string ⟨#[]⟩), .bool false]), _, rfl, ⟨rfl, rfl⟩, rfl, rfl, rfl, rfl, _, Try.func17, by simp [results, Try.f17, Frame.at]⟩
end Go.Proofs.Ytkhecigpjjhmjaa.LS
