/-
  The law's own insert over []int: a new row with x at place i; nothing that was there has turned.
-/
import Derived.Test.YtnijiimljpbgpaaKitB
import Derived.Maps.AppendAt
import Derived.Deep.RegionLaw
import Derived.WalkKit
namespace Go.Proofs.Ytnijiimljpbgpaa.PL
open Go.RowKit Go.Proofs.Ytnijiimljpbgpaa.Kit Go.Proofs.Ytnijiimljpbgpaa.Arg

theorem iinfo : (Try.prog.info? 3).map (fun i => (i.zero, i.size, i.bytes)) = some (some (.int .i64 0), 1, 8) := by kernel_rfl

def ints (zs : List Int) : List Value := zs.map (fun z => Value.int .i64 z)
theorem ints_one (zs : List Int) : ∀ u ∈ ints zs, u.oneCell' = true := by
  intro u hu
  obtain ⟨z, _, rfl⟩ := List.mem_map.1 hu
  rfl
theorem ints_append (a b : List Int) : ints (a ++ b) = ints a ++ ints b := by simp [ints]
theorem ints_length (a : List Int) : (ints a).length = a.length := by simp [ints]

/-- one append of ints onto a row of one's own -/
theorem app {X : World} {B : Nat} {v : Value} {n : Nat} {xs : List Int} (hown : X.ownsRow B 3 1 v n (ints xs)) (A : Option Addr) (m c : Nat) (news : List Int) (hl : news.length = m)
    (hc : 0 < m → ∃ ad, A = some ad ∧ ∀ j z, news[j]? = some z → X.cell? (ad.add j) = some (.int .i64 z)) (hn : n + m ≤ 2000) (hB : B ≤ X.heap.size) :
    ∃ A' c' X', (Builtin.append_ #[26, 26] 26 #[v, .slice A m c]).run Try.prog X = .ok (.slice A' (n + m) c') X' ∧ X'.ownsRow B 3 1 (.slice A' (n + m) c') (n + m) (ints (xs ++ news)) ∧ X.grownBy X' v.ownBlock ∧
      ((Value.slice A' (n + m) c').ownBlock = v.ownBlock ∨ (Value.slice A' (n + m) c').ownBlock = some X.heap.size) := by
  obtain ⟨i0, hi0, hz0, hz1, hz2⟩ := info_parts iinfo
  rw [ints_append]
  have shape : ∀ (v' : Value) (w' : World), w'.ownsRow B 3 1 v' (n + m) (ints xs ++ ints news) → ∃ A' c', v' = .slice A' (n + m) c' := by
    intro v' w' h
    rcases owns_cases h with ⟨rfl, h0, _⟩ | ⟨g, cap, rest, rfl, _⟩
    · exact ⟨none, 0, by rw [h0]⟩
    · exact ⟨_, _, rfl⟩
  rcases A with _ | ad
  · have hm : m = 0 := by
      rcases Nat.eq_zero_or_pos m with h0 | h0
      · exact h0
      · obtain ⟨ad, h, _⟩ := hc h0; cases h
    subst hm
    obtain rfl : news = [] := List.eq_nil_of_length_eq_zero hl
    have hr : (Builtin.append_ #[26, 26] 26 #[v, .slice none 0 c]).run Try.prog X = .ok v X := by
      rcases hown.2 with ⟨rfl, rfl⟩ | ⟨g, cap, cur, rfl, _, _, hnc, _⟩
      · simp [Builtin.append_, run_underlying Try.underlying26, sizeOf, typeInfo, hi0, Builtin.lenOf, Builtin.firstCells]
      · simp [Builtin.append_, run_underlying Try.underlying26, sizeOf, typeInfo, hi0, Builtin.lenOf, Builtin.firstCells, hnc, storeCells]
    have ho : X.ownsRow B 3 1 v (n + 0) (ints xs ++ ints []) := by simpa [ints] using hown
    obtain ⟨A', c', rfl⟩ := shape v X ho
    exact ⟨A', c', X, hr, ho, grown_refl _ _, .inl rfl⟩
  · have hnews : ∀ j u, (ints news)[j]? = some u → X.cell? (ad.add j) = some u := by
      intro j u hu
      unfold ints at hu
      rw [List.getElem?_map] at hu
      cases hq : news[j]? with
      | none => rw [hq] at hu; cases hu
      | some z =>
        rw [hq] at hu
        injection hu with hu
        subst hu
        obtain ⟨ad', h, hcell⟩ := hc (by have := (List.getElem?_eq_some_iff.1 hq).1; omega)
        injection h with h
        subst h
        exact hcell j z hq
    obtain ⟨v', w', hr, h2, h3, _, h5⟩ := run_append_own_at (P := Try.prog) X B 26 26 3 i0 _ 1 8 Try.underlying26 hi0 hz0 hz1 hz2 rfl (by decide) v n (ints xs) hown ad m c (ints news) (by rw [ints_length]; omega) hnews (ints_one _) (by unfold maxLen; omega) (by omega) hB
    obtain ⟨A', c', rfl⟩ := shape v' w' h2
    exact ⟨A', c', w', hr, h2, h3, h5⟩

/-- a piece of a row of ints, as Go cuts it, in a world in which what was there stays -/
theorem cutL {w X : World} {b : Nat} {A : Option Addr} {m c : Nat} {zs : List Int} (ho : w.ownsRow b 3 1 (.slice A m c) m (ints zs)) (hb : Below w.heap.size w X) {i : Nat} (hi : i ≤ m) :
    0 < i → ∃ ad, A = some ad ∧ ∀ j z, (zs.take i)[j]? = some z → X.cell? (ad.add j) = some (.int .i64 z) := by
  intro h0
  obtain ⟨hl, hc⟩ := ints_of_owns ho
  obtain ⟨ad, rfl, hlt, hcell⟩ := hc (by omega)
  refine ⟨ad, rfl, fun j z hj => ?_⟩
  rw [List.getElem?_take] at hj
  split at hj
  · rw [hb.cell (p := ad.add j) (by rw [add_block]; exact hlt)]
    exact hcell j z hj
  · cases hj
theorem add_add (a : Addr) (i j : Nat) : (a.add i).add j = a.add (i + j) := by
  unfold Addr.add
  by_cases hi : i = 0 <;> by_cases hj : j = 0 <;> simp [hi, hj, Nat.add_assoc]
theorem cutR {w X : World} {b : Nat} {A : Option Addr} {m c : Nat} {zs : List Int} (ho : w.ownsRow b 3 1 (.slice A m c) m (ints zs)) (hb : Below w.heap.size w X) {i : Nat} (hmc : m ≤ c) :
    0 < m - i → ∃ ad, (if c = i then A else Option.map (fun x => x.add i) A) = some ad ∧ ∀ j z, (zs.drop i)[j]? = some z → X.cell? (ad.add j) = some (.int .i64 z) := by
  intro h0
  obtain ⟨hl, hc⟩ := ints_of_owns ho
  obtain ⟨ad, rfl, hlt, hcell⟩ := hc (by omega)
  rw [if_neg (by omega)]
  refine ⟨ad.add i, rfl, fun j z hj => ?_⟩
  rw [List.getElem?_drop] at hj
  rw [add_add, hb.cell (p := ad.add (i + j)) (by rw [add_block]; exact hlt)]
  exact hcell _ z hj

def InsertPost (w : World) (zs : List Int) (i : Nat) (x : Int) (e : Ending) (w' : World) : Prop :=
  ∃ A' c', e = .returned (.slice A' (zs.length + 1) c') ∧ w'.ownsRow w.heap.size 3 1 (.slice A' (zs.length + 1) c') (zs.length + 1) (ints (zs.take i ++ x :: zs.drop i)) ∧ Below w.heap.size w w'

theorem own_empty (W : World) (B : Nat) (h : B ≤ W.heap.size) : ((W.alloc (.cells #[] 3)).drew).ownsRow B 3 1 (.slice (some ⟨W.heap.size, 0, none⟩) 0 0) 0 (ints []) := World.ownsRow_made W #[] 0 h (Nat.zero_le _) rfl

/-- the second and the third append -/
theorem c711 {w Y : World} {b : Nat} {A : Option Addr} {c i : Nat} {zs : List Int} (ho : w.ownsRow b 3 1 (.slice A zs.length c) zs.length (ints zs)) (hmc : zs.length ≤ c) (hi : i ≤ zs.length) (hn : zs.length ≤ 1000)
    (hb : Below w.heap.size w Y) {A4 : Option Addr} {c4 : Nat} (h4 : Y.ownsRow w.heap.size 3 1 (.slice A4 i c4) i (ints (zs.take i))) (g : Nat) (x : Int) (hx : Y.cell? ⟨g, 0, none⟩ = some (.int .i64 x)) :
    ∃ A7 c7 W7 A11 c11 W11,
      (Builtin.append_ #[26, 26] 26 #[.slice A4 i c4, .slice (some ⟨g, 0, none⟩) 1 1]).run Try.prog Y = .ok (.slice A7 (i + 1) c7) W7 ∧
      (Builtin.append_ #[26, 26] 26 #[.slice A7 (i + 1) c7, .slice (if c = i then A else Option.map (fun x => x.add i) A) (zs.length - i) (c - i)]).run Try.prog W7 = .ok (.slice A11 (zs.length + 1) c11) W11 ∧
      InsertPost w zs i x (.returned (.slice A11 (zs.length + 1) c11)) W11 := by
  obtain ⟨A7, c7, W7, hr7, ho7, hg7, _⟩ := app h4 (some ⟨g, 0, none⟩) 1 1 [x] rfl (fun _ => ⟨_, rfl, fun j z hj => by
    match j, hj with
    | 0, hj => injection hj with hj; subst hj; exact hx⟩) (by omega) hb.size
  have hb7 : Below w.heap.size w W7 := hb.grown hg7 hb.size (fun k hk => (h4.lt k hk).1)
  obtain ⟨A11, c11, W11, hr11, ho11, hg11, _⟩ := app ho7 (if c = i then A else Option.map (fun x => x.add i) A) (zs.length - i) (c - i) (zs.drop i) (by simp) (cutR ho hb7 hmc) (by omega) hb7.size
  have hlen : i + 1 + (zs.length - i) = zs.length + 1 := by omega
  rw [hlen] at hr11 ho11
  refine ⟨A7, c7, W7, A11, c11, W11, hr7, hr11, A11, c11, rfl, ?_, hb7.grown hg11 hb7.size (fun k hk => (ho7.lt k hk).1)⟩
  rw [List.append_assoc] at ho11
  exact ho11

set_option maxHeartbeats 1000000 in
theorem insert_ (w : World) (b : Nat) (A : Option Addr) (c i : Nat) (zs : List Int) (x : Int) (ho : w.ownsRow b 3 1 (.slice A zs.length c) zs.length (ints zs)) (hi : i ≤ zs.length) (hn : zs.length ≤ 1000) :
    Calls Try.prog 12 #[.slice A zs.length c, .int .i64 i, .int .i64 x] w (InsertPost w zs i x) := by
  have hmc : zs.length ≤ c ∧ c ≤ 9223372036854775807 := by
    rcases owns_cases ho with ⟨h1, h0, _⟩ | ⟨g, cap, rest, h1, hb, hr, hnc, hcm, _⟩
    · injection h1 with _ h2 h3; omega
    · injection h1 with _ _ h3; unfold maxLen at hcm; omega
  obtain ⟨hmc, hc63⟩ := hmc
  -- the three places at which Go may lay the one-element row
  have hx1 : Below w.heap.size w ((w.alloc (.cells #[.int .i64 x] 3)).alloc (.cells #[] 3)).drew := (((Below.refl _ _).alloc (Nat.le_refl _) _).alloc (by simp) _).drew
  have hx2 : Below w.heap.size w ((w.alloc (.cells #[] 3)).alloc (.cells #[.int .i64 x] 3)).drew := (((Below.refl _ _).alloc (Nat.le_refl _) _).alloc (by simp) _).drew
  have hx3 : Below w.heap.size w (w.alloc (.cells #[] 3)).drew := ((Below.refl _ _).alloc (Nat.le_refl _) _).drew
  have o1 : (((w.alloc (.cells #[.int .i64 x] 3)).alloc (.cells #[] 3)).drew).ownsRow w.heap.size 3 1 (.slice (some ⟨w.heap.size + 1, 0, none⟩) 0 0) 0 (ints []) := by
    have h := own_empty (w.alloc (.cells #[.int .i64 x] 3)) w.heap.size (by simp)
    rw [show (w.alloc (.cells #[.int .i64 x] 3)).heap.size = w.heap.size + 1 by simp] at h
    exact h
  have o3 := own_empty w w.heap.size (Nat.le_refl _)
  have o2 : (((w.alloc (.cells #[] 3)).alloc (.cells #[.int .i64 x] 3)).drew).ownsRow w.heap.size 3 1 (.slice (some ⟨w.heap.size, 0, none⟩) 0 0) 0 (ints []) := World.ownsRow.alloc (w := w.alloc (.cells #[] 3)) o3 _
  have s1 : ((w.alloc (.cells #[.int .i64 x] 3)).alloc (.cells #[] 3)).drew.cell? ⟨w.heap.size, 0, none⟩ = some (.int .i64 x) := by
    have h : Row (w.alloc (.cells #[.int .i64 x] 3)) w.heap.size 3 [.int .i64 x] := heap_alloc_new w _
    exact (h.alloc _).cell 0
  have s2 : ((w.alloc (.cells #[] 3)).alloc (.cells #[.int .i64 x] 3)).drew.cell? ⟨w.heap.size + 1, 0, none⟩ = some (.int .i64 x) := by
    have h : Row ((w.alloc (.cells #[] 3)).alloc (.cells #[.int .i64 x] 3)) (w.alloc (.cells #[] 3)).heap.size 3 [.int .i64 x] := heap_alloc_new _ _
    have h2 := h.cell 0
    rw [show (w.alloc (.cells #[] 3)).heap.size = w.heap.size + 1 by simp] at h2
    exact h2
  obtain ⟨A4, c4, W4, hr4, ho4, hg4, _⟩ := app o1 A i c (zs.take i) (by simp; omega) (cutL ho hx1 hi) (by omega) (by simp; omega)
  obtain ⟨B4, d4, X4, ir4, io4, ig4, _⟩ := app o2 A i c (zs.take i) (by simp; omega) (cutL ho hx2 hi) (by omega) (by simp; omega)
  obtain ⟨C4, e4, Y4, jr4, jo4, jg4, _⟩ := app o3 A i c (zs.take i) (by simp; omega) (cutL ho hx3 hi) (by omega) (by simp)
  rw [Nat.zero_add, List.nil_append] at ho4 io4 jo4
  rw [Nat.zero_add] at hr4 ir4 jr4
  obtain ⟨A7, c7, W7, A11, c11, W11, hr7, hr11, hp1⟩ := c711 ho hmc hi hn (hx1.grown hg4 hx1.size (fun k hk => (o1.lt k hk).1)) ho4 w.heap.size x (hg4.cell s1 (by simp [Value.ownBlock]))
  obtain ⟨B7, d7, X7, B11, d11, X11, ir7, ir11, hp2⟩ := c711 ho hmc hi hn (hx2.grown ig4 hx2.size (fun k hk => (o2.lt k hk).1)) io4 (w.heap.size + 1) x (ig4.cell s2 (by simp [Value.ownBlock]))
  have hb3 : Below w.heap.size w Y4 := hx3.grown jg4 hx3.size (fun k hk => (o3.lt k hk).1)
  obtain ⟨C7, e7, Y7, C11, e11, Y11, jr7, jr11, hp3⟩ := c711 ho hmc hi hn (hb3.alloc hb3.size (.cells #[.int .i64 x] 3)) (World.ownsRow.alloc jo4 _) Y4.heap.size x (by
    have h : Row (Y4.alloc (.cells #[.int .i64 x] 3)) Y4.heap.size 3 [.int .i64 x] := heap_alloc_new Y4 _
    exact h.cell 0)
  have HP1 := Lib.hid hp1
  have HP2 := Lib.hid hp2
  have HP3 := Lib.hid hp3
  have hi2 : (i : Int) ≤ (zs.length : Int) := by omega
  have hi3 : i ≤ c := by omega
  clear hp1 hp2 hp3 hx1 hx2 hx3 o1 o2 o3 s1 s2 ho4 io4 jo4 hg4 ig4 jg4 hb3 ho
  generalize hL : zs.length = m at *
  have HL := Lib.hid hL
  clear hL
  generalize hR : (if c = i then A else Option.map (fun x => x.add i) A) = R at hr11 ir11 jr11
  go_enter Try.func12, Try.ntmps12
  go_wp2_with fail
  go_region_law (first
    | (refine step_append_eq rfl (.tmp 7) (.tmp 10) 26 26 rfl (.slice (some ⟨w.heap.size + 1, 0, none⟩) 0 0) (.slice A i c) (by simp [Act.eval, Act.put]) (by simp [Act.eval, Act.put]) hr4 ?_)
    | (refine step_append_eq rfl (.tmp 7) (.tmp 10) 26 26 rfl (.slice (some ⟨w.heap.size, 0, none⟩) 0 0) (.slice A i c) (by simp [Act.eval, Act.put]) (by simp [Act.eval, Act.put]) ir4 ?_)
    | (refine step_append_eq rfl (.tmp 7) (.tmp 10) 26 26 rfl (.slice (some ⟨w.heap.size, 0, none⟩) 0 0) (.slice A i c) (by simp [Act.eval, Act.put]) (by simp [Act.eval, Act.put]) jr4 ?_)
    | (refine step_append_eq rfl (.tmp 11) (.tmp 13) 26 26 rfl (.slice A4 i c4) (.slice (some ⟨w.heap.size, 0, none⟩) 1 1) (by simp [Act.eval, Act.put]) (by simp [Act.eval, Act.put]) hr7 ?_)
    | (refine step_append_eq rfl (.tmp 11) (.tmp 13) 26 26 rfl (.slice B4 i d4) (.slice (some ⟨w.heap.size + 1, 0, none⟩) 1 1) (by simp [Act.eval, Act.put]) (by simp [Act.eval, Act.put]) ir7 ?_)
    | (refine step_append_eq rfl (.tmp 11) (.tmp 13) 26 26 rfl (.slice C4 i e4) (.slice (some ⟨Y4.heap.size, 0, none⟩) 1 1) (by simp [Act.eval, Act.put]) (by simp [Act.eval, Act.put]) jr7 ?_)
    | (refine step_append_eq rfl (.tmp 14) (.tmp 17) 26 26 rfl (.slice A7 (i + 1) c7) (.slice R (m - i) (c - i)) (by simp [Act.eval, Act.put, hR]) (by simp [Act.eval, Act.put, hR]) hr11 ?_)
    | (refine step_append_eq rfl (.tmp 14) (.tmp 17) 26 26 rfl (.slice B7 (i + 1) d7) (.slice R (m - i) (c - i)) (by simp [Act.eval, Act.put, hR]) (by simp [Act.eval, Act.put, hR]) ir11 ?_)
    | (refine step_append_eq rfl (.tmp 14) (.tmp 17) 26 26 rfl (.slice C7 (i + 1) e7) (.slice R (m - i) (c - i)) (by simp [Act.eval, Act.put, hR]) (by simp [Act.eval, Act.put, hR]) jr11 ?_))
  all_goals
    go_wp2
    go_ret
    first
      | exact HP1.out
      | exact HP2.out
      | exact HP3.out
end Go.Proofs.Ytnijiimljpbgpaa.PL
