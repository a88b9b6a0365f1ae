/-
  A line of ints and beside it a slice of ints: what each call leaves of both.
-/
import Derived.Test.YtkhecigpjjhmjaaWant
namespace Go.Proofs.Ytkhecigpjjhmjaa.PL
open Go.RowKit Go.Conc Go.Proofs.Ytkhecigpjjhmjaa.Kit Go.Proofs.Ytkhecigpjjhmjaa.Arg Go.Proofs.Ytkhecigpjjhmjaa.LI

structure St (w wr : World) (T c room : Nat) (A : Option Addr) (cp : Nat) (ys zs : List Int) : Prop where
  lay : ∃ bs, LI.L wr T c room bs (ints zs) ∧ Away A bs
  want : Want wr (T + 1) A cp ys
  bel : Below c w wr
  cT : c < T
  cw : c ≤ w.heap.size

def PutP (w : World) (T c room : Nat) (A : Option Addr) (cp : Nat) (ys zs : List Int) (b : Bool) (e : Ending) (w' : World) : Prop := e = .returned (.bool b) ∧ St w w' T c room A cp ys zs
/-- Put that found room; what was there but for the channel is as it was -/
def PutK (w wr : World) (T c room : Nat) (A : Option Addr) (cp : Nat) (ys zs : List Int) (e : Ending) (w' : World) : Prop := e = .returned (.bool true) ∧ St w w' T c room A cp ys zs ∧ wr.grownBy w' (some c)
def RoomP (w : World) (T c room : Nat) (A : Option Addr) (cp : Nat) (ys zs : List Int) (r : Nat) (e : Ending) (w' : World) : Prop := e = .returned (.int .i64 (r : Nat)) ∧ St w w' T c room A cp ys zs
def TakeP (w : World) (T c room : Nat) (A : Option Addr) (cp : Nat) (ys zs : List Int) (x : Int) (b : Bool) (e : Ending) (w' : World) : Prop := e = .returned (.tuple #[.int .i64 x, .bool b]) ∧ St w w' T c room A cp ys zs
def AllP (w : World) (T c room : Nat) (A : Option Addr) (cp : Nat) (ys zs : List Int) (e : Ending) (w' : World) : Prop :=
  ∃ A3 c3, e = .returned (.slice A3 zs.length c3) ∧ IntsAt w' A3 zs.length zs ∧ St w w' T c room A cp ys []

section
variable {w wr wx : World} {T c room : Nat} {A : Option Addr} {cp : Nat} {ys zs : List Int}
theorem St.size (h : St w wr T c room A cp ys zs) : T + 1 ≤ wr.heap.size := by obtain ⟨bs, hL, _⟩ := h.lay; exact hL.T_lt
theorem St.cr (h : St w wr T c room A cp ys zs) : c ≤ wr.heap.size := by have := h.size; have := h.cT; omega
theorem St.le (h : St w wr T c room A cp ys zs) : zs.length ≤ room := by obtain ⟨bs, hL, _⟩ := h.lay; have := hL.le; rwa [ints_length] at this
theorem St.below (h : St w wr T c room A cp ys zs) (hb : Below wr.heap.size wr wx) : St w wx T c room A cp ys zs := by
  obtain ⟨bs, hL, ha⟩ := h.lay
  exact ⟨⟨bs, hL.below hb, ha⟩, h.want.below hb, h.bel.trans (hb.mono h.cr), h.cT, h.cw⟩
theorem St.wantC (h : St w wr T c room A cp ys zs) {w' : World} (hg : wr.grownBy w' (some c)) : Want w' (T + 1) A cp ys :=
  h.want.kept hg (fun g off e => by have := (h.want.block e).1; have := h.cT; intro e2; injection e2; omega)
theorem St.belC (h : St w wr T c room A cp ys zs) {w' : World} (hg : wr.grownBy w' (some c)) : Below c w w' :=
  h.bel.trans (below_of_grown hg h.cr (fun g e => by injection e; omega))

theorem St.put (h : St w wr T c room A cp ys zs) (hr : zs.length < room) (x : Int) : Calls Try.prog 9 #[ptr T, .int .i64 x] wr (PutK w wr T c room A cp ys (zs ++ [x])) := by
  obtain ⟨bs, hL, ha⟩ := h.lay
  refine (LI.put_room hL (by rw [ints_length]; exact hr) x).mono ?_
  rintro e w2 ⟨rfl, hl2, hg2⟩
  rw [← ints_snoc] at hl2
  refine ⟨rfl, ⟨⟨_, hl2, fun g off e hm => ?_⟩, h.wantC hg2, h.belC hg2, h.cT, h.cw⟩, hg2⟩
  rcases List.mem_append.1 hm with hm | hm
  · exact ha g off e hm
  · have := (h.want.block e).2
    simp at hm; omega
theorem St.full (h : St w wr T c room A cp ys zs) (hr : room ≤ zs.length) (x : Int) : Calls Try.prog 9 #[ptr T, .int .i64 x] wr (PutP w T c room A cp ys zs false) := by
  obtain ⟨bs, hL, ha⟩ := h.lay
  refine (LI.put_full hL (by rw [ints_length]; exact hr) x).mono ?_
  rintro e w2 ⟨rfl, hb2⟩
  exact ⟨rfl, h.below hb2⟩
theorem St.take {z : Int} (h : St w wr T c room A cp ys (z :: zs)) : Calls Try.prog 10 #[ptr T] wr (TakeP w T c room A cp ys zs z true) := by
  obtain ⟨bs, hL, ha⟩ := h.lay
  have hl := hL.len
  obtain ⟨b, bs', rfl⟩ : ∃ b bs', bs = b :: bs' := by
    cases bs with
    | nil => simp [ints] at hl
    | cons b bs' => exact ⟨b, bs', rfl⟩
  refine (LI.take_some hL).mono ?_
  rintro e w2 ⟨rfl, hl2, hg2⟩
  exact ⟨rfl, ⟨_, hl2, fun g off e hm => ha g off e (List.mem_cons_of_mem _ hm)⟩, h.wantC hg2, h.belC hg2, h.cT, h.cw⟩
theorem St.takeNone (h : St w wr T c room A cp ys []) : Calls Try.prog 10 #[ptr T] wr (TakeP w T c room A cp ys [] 0 false) := by
  obtain ⟨bs, hL, ha⟩ := h.lay
  refine (LI.take_none hL).mono ?_
  rintro e w2 ⟨rfl, rfl⟩
  exact ⟨rfl, h⟩
theorem St.all (h : St w wr T c room A cp ys zs) : Calls Try.prog 11 #[ptr T] wr (AllP w T c room A cp ys zs) := by
  obtain ⟨bs, hL, ha⟩ := h.lay
  refine (LI.all_ hL).mono ?_
  rintro e w2 ⟨v, rfl, ho, hl2, hg2⟩
  obtain ⟨A3, c3, rfl, -, -, hi⟩ := owns_view ho
  exact ⟨A3, c3, rfl, hi, ⟨[], hl2, fun g off e hm => by simp at hm⟩, h.wantC hg2, h.belC hg2, h.cT, h.cw⟩
theorem St.len (h : St w wr T c room A cp ys zs) (k : Nat) (hk : zs.length = k) : Calls Try.prog 12 #[ptr T] wr fun e w' => e = .returned (.int .i64 (k : Nat)) ∧ wr = w' := by
  obtain ⟨bs, hL, ha⟩ := h.lay
  exact LI.len_k hL k (by rw [ints_length]; exact hk)
theorem St.roomL (h : St w wr T c room A cp ys zs) (r : Nat) (hr : zs.length + r = room) : Calls Try.prog 13 #[ptr T] wr (RoomP w T c room A cp ys zs r) := by
  obtain ⟨bs, hL, ha⟩ := h.lay
  refine (LI.room_k hL r (by rw [ints_length]; exact hr)).mono ?_
  rintro e w2 ⟨rfl, hb2⟩
  exact ⟨rfl, h.below hb2⟩
theorem St.wantNil (h : St w wr T c room A cp ys zs) : St w wr T c room none 0 [] zs := by
  obtain ⟨bs, hL, ha⟩ := h.lay
  exact ⟨⟨bs, hL, fun g off e => by cases e⟩, Want.nil _ _, h.bel, h.cT, h.cw⟩
theorem St.tail {y : Int} (h : St w wr T c room A cp (y :: ys) zs) : St w wr T c room (if cp = 1 then A else A.map (fun x : Addr => x.add 1)) (cp - 1) ys zs := by
  obtain ⟨bs, hL, ha⟩ := h.lay
  refine ⟨⟨bs, hL, fun g off e => ?_⟩, h.want.tail, h.bel, h.cT, h.cw⟩
  split at e
  · exact ha g off e
  · cases A with
    | none => cases e
    | some a =>
      simp only [Option.map_some, Option.some.injEq] at e
      rcases h.want with ⟨h1, _⟩ | ⟨g', off', cur, h1, _⟩
      · cases h1
      · injection h1 with h1
        subst h1
        have h2 : ((⟨g', off', none⟩ : Addr).add 1).block = g := by rw [e]
        rw [add_block] at h2
        exact ha g off' (by rw [← h2])
theorem St.append (h : St w wr T c room A cp ys zs) (hn : ys.length ≤ 1000) (x : Int) (ty : TypeId) :
    ∃ A' cp' w', (Builtin.append_ #[26, 26] ty #[.slice A ys.length cp, .slice (some ⟨wr.heap.size, 0, none⟩) 1 1]).run Try.prog (wr.alloc (.cells #[.int .i64 x] 3)) = .ok (.slice A' (ys.length + 1) cp') w' ∧ St w w' T c room A' cp' (ys ++ [x]) zs := by
  have h1 := h.below ((Below.refl _ _).alloc (Nat.le_refl _) (.cells #[.int .i64 x] 3))
  have hx : (wr.alloc (.cells #[.int .i64 x] 3)).cell? ⟨wr.heap.size, 0, none⟩ = some (.int .i64 x) := by
    rw [cell_of_row _ wr.heap.size 0 #[.int .i64 x] 3 (0, 0) (heap_alloc_new wr _)]; rfl
  obtain ⟨A', cp', w', hr, hw, ho⟩ := h1.want.append h1.size hn x ty _ 1 hx
  obtain ⟨bs, hL, ha⟩ := h1.lay
  refine ⟨A', cp', w', hr, ?_⟩
  rcases ho with ⟨g, off, rfl, rfl, hg⟩ | ⟨rfl, hb⟩
  · have hgb := h1.want.block rfl
    have hgT : T < g := hgb.1
    have hcT := h.cT
    refine ⟨⟨bs, hL.grown hg (fun e => by injection e; omega) (fun e => by injection e; omega) (fun b hb e => ha g off rfl (by injection e with e; rw [← e]; exact hb)), ha⟩, hw, h1.bel.trans (below_of_grown hg h1.cr (fun g' e => by injection e with e; omega)), h.cT, h.cw⟩
  · refine ⟨⟨bs, hL.below hb, fun g off e hm => ?_⟩, hw, h1.bel.trans (hb.mono h1.cr), h.cT, h.cw⟩
    have := hL.mem_lt hm
    injection e with e
    injection e with e1 e2
    omega
end
end Go.Proofs.Ytkhecigpjjhmjaa.PL
