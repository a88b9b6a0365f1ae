/-
  Rows of changes in a row of the call's own; ints looked for among ints.
-/
import Derived.Test.YtnicijeeocknaaaDoorL3
import Derived.Test.YtnicijeeocknaaaDoorN4
import Derived.Deep.DeepCutAuto
set_option linter.unusedVariables false
set_option linter.unusedSimpArgs false
namespace Go.Proofs.YtnicijeeocknaaaDoor.RwRo
open Go.RowKit Go.Proofs.YtnicijeeocknaaaDoor.BxD Go.Proofs.YtnicijeeocknaaaDoor.BxKit Go.Proofs.YtnicijeeocknaaaDoor.BxA Go.Proofs.YtnicijeeocknaaaDoor.BxR Go.Proofs.YtnicijeeocknaaaDoor.BxC Go.Proofs.YtnicijeeocknaaaDoor.RwD Go.Proofs.YtnicijeeocknaaaDoor.RwM Go.Proofs.YtnicijeeocknaaaDoor.RwF Go.Proofs.YtnicijeeocknaaaDoor.RwKit

theorem elR : El 32 51 (.agg #[.int .i64 0, .int .i64 0, .int .i64 0, .int .i64 0, .int .i64 0, .int .i64 0, .string ⟨#[]⟩, .int .i64 0, .slice none 0 0, .string ⟨#[]⟩, .string ⟨#[]⟩]) 11 128 := ⟨Tryd.underlying32, by kernel_rfl, rfl, by decide⟩
/-- A row with its keys' slice. -/
structure RRaw where
  r : Row
  K : Option Addr
  c : Nat
def cell11 (q : RRaw) : List Value := [.int .i64 q.r.kind, .int .i64 q.r.uid, .int .i64 q.r.mod, .int .i64 q.r.msg.uid, .int .i64 q.r.msg.mod, .int .i64 q.r.msg.date, .string q.r.msg.id, .int .i64 q.r.msg.flags, .slice q.K q.r.msg.keys.length q.c, .string q.r.msg.text, .string q.r.text]
def rc (l : List RRaw) : List Value := l.flatMap cell11
theorem rc_length : ∀ l : List RRaw, (rc l).length = l.length * 11
  | [] => rfl
  | r :: l => by
    have := rc_length l
    unfold rc at this ⊢
    rw [List.flatMap_cons, List.length_append, this, List.length_cons]
    simp [cell11]; omega
theorem rc_append (a b : List RRaw) : rc (a ++ b) = rc a ++ rc b := by unfold rc; rw [List.flatMap_append]
theorem rc_snoc (a : List RRaw) (q : RRaw) : rc (a ++ [q]) = rc a ++ cell11 q := by rw [rc_append]; unfold rc; simp
theorem rc_get : ∀ (l : List RRaw) (i f : Nat) (r : RRaw), l[i]? = some r → f < 11 → (rc l)[i * 11 + f]? = (cell11 r)[f]?
  | r0 :: l, 0, f, r, h, hf => by
    obtain rfl : r0 = r := by simpa using h
    unfold rc
    rw [List.flatMap_cons, Nat.zero_mul, Nat.zero_add, List.getElem?_append_left (by simpa [cell11] using hf)]
  | r0 :: l, i + 1, f, r, h, hf => by
    have := rc_get l i f r (by simpa using h) hf
    unfold rc at this ⊢
    rw [List.flatMap_cons, List.getElem?_append_right (by simp [cell11]; omega), ← this]
    congr 1
    simp [cell11]; omega
/-- The keys of rows, and their texts, are in order. -/
def RKeys (w : World) (B : Nat) (l : List RRaw) : Prop := ∀ q ∈ l, IntsAt w B q.K q.r.msg.keys.length q.r.msg.keys ∧ q.r.msg.keys.length ≤ q.c ∧ q.r.msg.id.size ≤ 140737488355328 ∧ q.r.msg.text.size ≤ 140737488355328 ∧ q.r.text.size ≤ 140737488355328
theorem rowsAt_own {w : World} {base n B cp : Nat} {A : Option Addr} {rs : List RRaw} (h : w.ownsRow base 51 11 (.slice A n cp) n (rc rs)) (hB : ∀ g, (Value.slice A n cp).ownBlock = some g → g < B) (hn : n ≤ 140737488355328) (hk : RKeys w B rs) : RowsAt w B A n (rs.map RRaw.r) := by
  have hl := h.1
  rw [rc_length] at hl
  refine ⟨by rw [List.length_map]; omega, hn, fun hn => ?_⟩
  obtain ⟨g, cap, hv, _, hlt⟩ := own_form h hn
  have hA : A = some ⟨g, 0, none⟩ := by injection hv
  subst hA
  refine ⟨_, rfl, hB g rfl, fun j m hj => ?_⟩
  rw [List.getElem?_map] at hj
  cases hr : rs[j]? with
  | none => rw [hr] at hj; cases hj
  | some r =>
    rw [hr] at hj
    obtain rfl : r.r = m := Option.some.inj hj
    have hc : ∀ f, f < 11 → ∀ u, (cell11 r)[f]? = some u → w.cell? ⟨g, j * 11 + f, none⟩ = some u := fun f hf u hu => by
      have := h.cells (g := g) rfl (j * 11 + f) u (by rw [rc_get rs j f r hr hf, hu])
      rwa [add_new] at this
    obtain ⟨k1, k2, k3, k4, k5⟩ := hk r (List.mem_of_getElem? hr)
    rw [add_new]
    exact ⟨hc 0 (by decide) _ rfl, hc 1 (by decide) _ rfl, hc 2 (by decide) _ rfl, hc 3 (by decide) _ rfl, hc 4 (by decide) _ rfl, hc 5 (by decide) _ rfl, hc 6 (by decide) _ rfl, hc 7 (by decide) _ rfl, ⟨r.K, r.c, hc 8 (by decide) _ rfl, k2, k1⟩, hc 9 (by decide) _ rfl, hc 10 (by decide) _ rfl, k3, k4, k5⟩
/-- The cells of a row laid in a new block. -/
theorem src_row (w : World) (q : RRaw) : Src (w.alloc (.cells (cell11 q).toArray 51)) (some ⟨w.heap.size, 0, none⟩) 1 11 (cell11 q) := by
  have := src_new w (cell11 q).toArray 51 (b := w.heap.size) (m := 1) (sz := 11) rfl rfl (fun u hu => by
    simp only [cell11, List.mem_cons, List.not_mem_nil, or_false] at hu
    rcases hu with rfl | rfl | rfl | rfl | rfl | rfl | rfl | rfl | rfl | rfl | rfl <;> rfl)
  simpa using this
theorem RKeys.keep {w w' : World} {B B' : Nat} {l : List RRaw} (h : RKeys w B l) (hB : B ≤ B') (hk : ∀ p : Addr, p.block < B → w'.cell? p = w.cell? p) : RKeys w' B' l := fun q hq => ⟨IntsAt.keep (h q hq).1 hB hk, (h q hq).2⟩

theorem i_ne {a b : Int} (h : a ≠ b) : (a == b) = false := by simpa using h
def IxiPost (s : Int) (xs : List Int) (w : World) (e : Ending) (w' : World) : Prop := ∃ i : Int, e = .returned (.int .i64 i) ∧ decide (0 ≤ i) = decide (s ∈ xs) ∧ w = w'
set_option maxHeartbeats 1000000 in
theorem indexI_any {A : Option Addr} {n cp B0 : Nat} {xs : List Int} {w : World} (s : Int) (hx : IntsAt w B0 A n xs) :
    Calls Tryd.prog 55 #[.slice A n cp, .int .i64 s] w (IxiPost s xs w) := by
  have HX := Lib.hid hx
  have hn := hx.max
  clear hx
  go_enter Tryd.func55, Tryd.ntmps55
  go_wp2_with fail
  go_loop [8] (fun s8 => ∃ k : Nat, k ≤ n ∧ s8 = .int .i64 k ∧ Hid (s ∉ xs.take k)) (fun s8 => n - (intOf s8).toNat)
  case atStart => exact ⟨0, Nat.zero_le _, rfl, show s ∉ xs.take 0 by simp⟩
  case round =>
    obtain ⟨k, hk, rfl, HT⟩ := hrel
    by_cases hlt : k < n
    · obtain ⟨ad1, x1, rfl, e1, hc1⟩ := IntsAt.at_ HX.out (Below.refl B0 w) (Nat.le_refl _) hlt
      have g1 : (0 : Int) ≤ (k : Int) := by omega
      have g2 : (k : Int) < (n : Int) := by omega
      by_cases hq : x1 = s
      · subst hq
        have HF := Lib.hid (show decide (x1 ∈ xs) = true from decide_eq_true (List.mem_of_getElem? e1))
        clear e1
        go_wp2_with fail
        go_ret
        exact ⟨(k : Int), rfl, by rw [HF.out]; exact decide_eq_true (by omega), rfl⟩
      · have HT2 := Lib.hid (not_mem_snoc HT.out e1 hq)
        have hxb := i_ne (fun e => hq e.symm)
        clear hq e1
        go_wp2_with fail
        go_round
        case rel => exact ⟨k + 1, by omega, by go_num, HT2⟩
        case measure => simp [intOf]; omega
    · obtain rfl : k = n := by omega
      have HF := Lib.hid (show decide (s ∈ xs) = false from decide_eq_false (by have h := HT.out; rw [take_len HX.out.len] at h; exact h))
      go_wp2_with fail
      go_ret
      exact ⟨-1, rfl, by rw [HF.out]; rfl, rfl⟩
theorem containsI_any {A : Option Addr} {n cp B0 : Nat} {xs : List Int} {w : World} (s : Int) (hx : IntsAt w B0 A n xs) :
    Calls Tryd.prog 36 #[.slice A n cp, .int .i64 s] w fun e w' => e = .returned (.bool (decide (s ∈ xs))) ∧ w = w' := by
  have K := Lib.hid (indexI_any (cp := cp) s hx)
  clear hx
  go_enter Tryd.func36, Tryd.ntmps36
  go_wp2_with (go_at_call 55; refine K.out.mono ?_; rintro e w' ⟨i, rfl, hi, rfl⟩)
  go_ret
  exact ⟨rfl, rfl⟩
end Go.Proofs.YtnicijeeocknaaaDoor.RwRo
