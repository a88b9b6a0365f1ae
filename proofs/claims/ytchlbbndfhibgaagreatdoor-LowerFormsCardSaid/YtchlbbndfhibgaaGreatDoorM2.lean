/-
  LwL + LwP + LwS
-/
import Derived.Test.YtchlbbndfhibgaaGreatDoorLwK
import Derived.Test.YtchlbbndfhibgaaGreatDoorM3
import Derived.Test.YtchlbbndfhibgaaGreatDoorJ4
import Derived.Test.YtchlbbndfhibgaaGreatDoorM1
import Derived.Test.YtchlbbndfhibgaaGreatDoorK7
set_option linter.unusedVariables false
set_option linter.unusedSimpArgs false
namespace Go.Proofs.YtchlbbndfhibgaaGreatDoor.LwL
open Go.RowKit Go.Proofs.YtchlbbndfhibgaaGreatDoor.BxD Go.Proofs.YtchlbbndfhibgaaGreatDoor.BxKit Go.Proofs.YtchlbbndfhibgaaGreatDoor.BxR Go.Proofs.YtchlbbndfhibgaaGreatDoor.BxC Go.Proofs.YtchlbbndfhibgaaGreatDoor.RwD Go.Proofs.YtchlbbndfhibgaaGreatDoor.RwKit Go.Proofs.YtchlbbndfhibgaaGreatDoor.RwMb Go.Proofs.YtchlbbndfhibgaaGreatDoor.ImD Go.Proofs.YtchlbbndfhibgaaGreatDoor.ImN Go.Proofs.YtchlbbndfhibgaaGreatDoor.ImL Go.Proofs.YtchlbbndfhibgaaGreatDoor.LwD Go.Proofs.YtchlbbndfhibgaaGreatDoor.LwT Go.Proofs.YtchlbbndfhibgaaGreatDoor.LwK
open Go.Proofs.YtchlbbndfhibgaaGreatDoor.PkKit (BytesAt)

theorem elL : El 52 50 (.agg #[.int .i64 0, .int .i64 0, .string ⟨#[]⟩]) 3 32 := ⟨Tryz.underlying52, by kernel_rfl, rfl, by decide⟩
def cell3 (x : Los) : List Value := [.int .i64 x.kind, .int .i64 x.uid, .string x.text]
def lc (l : List Los) : List Value := l.flatMap cell3
theorem lc_length (l : List Los) : (lc l).length = l.length * 3 := by
  unfold lc
  induction l with
  | nil => rfl
  | cons x l ih => rw [List.flatMap_cons, List.length_append, ih, List.length_cons]; simp [cell3]; omega
theorem lc_append (a b : List Los) : lc (a ++ b) = lc a ++ lc b := by unfold lc; rw [List.flatMap_append]
theorem lc_get : ∀ (l : List Los) (j f : Nat) {x : Los}, l[j]? = some x → f < 3 → (lc l)[j * 3 + f]? = (cell3 x)[f]?
  | [], _, _, _, h, _ => by simp at h
  | y :: l, 0, f, x, h, hf => by
    obtain rfl : y = x := by simpa using h
    unfold lc
    rw [List.flatMap_cons, Nat.zero_mul, Nat.zero_add, List.getElem?_append_left (by simpa [cell3] using hf)]
  | y :: l, j + 1, f, x, h, hf => by
    have := lc_get l j f (x := x) (by simpa using h) hf
    unfold lc at this ⊢
    rw [List.flatMap_cons, List.getElem?_append_right (by simp [cell3]; omega)]
    have e : (j + 1) * 3 + f - (cell3 y).length = j * 3 + f := by simp [cell3]; omega
    rw [e, this]
def losC (w : World) (_ : Nat) (p : Addr) (x : Los) : Prop := w.cell? p = some (.int .i64 x.kind) ∧ w.cell? (fld p 1) = some (.int .i64 x.uid) ∧ w.cell? (fld p 2) = some (.string x.text)
abbrev LosAt := RowAt losC 3
section
variable {w w' : World} {B n : Nat} {A : Option Addr}
theorem LosAt.keep {l : List Los} {B' : Nat} (h : LosAt w B A n l) (hB : B ≤ B') (hk : ∀ p : Addr, p.block < B → w'.cell? p = w.cell? p) : LosAt w' B' A n l :=
  h.map hB fun _ _ hp ⟨a, b, c⟩ => ⟨(hk _ hp).trans a, (hk (fld _ 1) hp).trans b, (hk (fld _ 2) hp).trans c⟩
theorem LosAt.below {l : List Los} {B' : Nat} (h : LosAt w B A n l) (hb : Below B' w w') (hB : B ≤ B') : LosAt w' B A n l := LosAt.keep h (Nat.le_refl _) fun _ hp => hb.cell (by omega)
theorem LosAt.more {l : List Los} {B' : Nat} (h : LosAt w B A n l) (hB : B ≤ B') : LosAt w B' A n l := LosAt.keep h hB fun _ _ => rfl
/-- As the walk spells it: the three cells of a loss. -/
theorem LosAt.sp {l : List Los} {wr : World} {B' : Nat} (h : LosAt w B A n l) (hb : Below B' w wr) (hB : B ≤ B') {j : Nat} (hj : j < n) :
    ∃ ad kd u tx, A = some ad ∧ ad.block < B ∧ l[j]? = some ⟨kd, u, tx⟩ ∧ wr.cell? (ad.add (j * 3)) = some (.int .i64 kd) ∧ wr.cell? { block := (ad.add (j * 3)).block, off := (ad.add (j * 3)).off + 1 } = some (.int .i64 u) ∧ wr.cell? { block := (ad.add (j * 3)).block, off := (ad.add (j * 3)).off + 2 } = some (.string tx) := by
  obtain ⟨ad, ⟨kd, u, tx⟩, e, hlt, hx, h0, h1, h2⟩ := h.get hj
  have hk : ∀ p : Addr, p.block < B → wr.cell? p = w.cell? p := fun p hp => hb.cell (show p.block < B' by omega)
  exact ⟨ad, kd, u, tx, e, hlt, hx, (hk _ (by rw [add_block]; exact hlt)).trans h0, (hk (fld _ 1) (by show (ad.add (j * 3)).block < B; rw [add_block]; exact hlt)).trans h1, (hk (fld _ 2) (by show (ad.add (j * 3)).block < B; rw [add_block]; exact hlt)).trans h2⟩
theorem losAt_own {base cp : Nat} {l : List Los} (h : w.ownsRow base 50 3 (.slice A n cp) n (lc l)) (hl : l.length = n) (hn : n ≤ 140737488355328) : LosAt w w.heap.size A n l := by
  refine ⟨hl, hn, fun hn => ?_⟩
  obtain ⟨g, cap, hv, _, hlt⟩ := own_form h hn
  have hA : A = some ⟨g, 0, none⟩ := by injection hv
  subst hA
  refine ⟨_, rfl, hlt, fun j x hj => ?_⟩
  have c : ∀ f, f < 3 → w.cell? ⟨g, j * 3 + f, none⟩ = (cell3 x)[f]? := fun f hf => by
    have e := lc_get l j f hj hf
    have hs : ∃ v, (cell3 x)[f]? = some v := ⟨_, List.getElem?_eq_getElem (by simpa [cell3] using hf)⟩
    obtain ⟨v, hv⟩ := hs
    rw [hv] at e ⊢
    have := h.cells (g := g) rfl _ _ e
    rwa [add_new] at this
  unfold losC fld
  rw [add_new]
  exact ⟨c 0 (by decide), c 1 (by decide), c 2 (by decide)⟩
end
/-- The losses so far, in memory of the call's own behind w2. -/
structure LF (w2 wr : World) (A : Option Addr) (n c : Nat) (l : List Los) : Prop where
  ln : l.length = n
  own : wr.ownsRow w2.heap.size 50 3 (.slice A n c) n (lc l)
  bel : Below w2.heap.size w2 wr
section
variable {w2 wr w3 : World} {A A' : Option Addr} {n c c' : Nat} {l l' : List Los}
theorem LF.start (w2 : World) : LF w2 w2 none 0 0 [] := ⟨rfl, World.ownsRow_nil _ _ _ _, Below.refl _ _⟩
theorem LF.go (h : LF w2 wr A n c l) (hb : Below wr.heap.size wr w3) : LF w2 w3 A n c l := ⟨h.ln, own_block h.own fun g e => hb.block g (h.own.lt g e).2, h.bel.trans (hb.mono h.bel.size)⟩
theorem LF.alloc (h : LF w2 wr A n c l) (o : Obj) : LF w2 (wr.alloc o) A n c l := h.go ((Below.refl _ _).alloc (Nat.le_refl _) o)
theorem LF.app (h : LF w2 wr A n c l) {x : Los} (ho : w3.ownsRow w2.heap.size 50 3 (.slice A' (n + 1) c') (n + 1) (lc l ++ cell3 x)) (hg : wr.grownBy w3 (Value.slice A n c).ownBlock) : LF w2 w3 A' (n + 1) c' (l ++ [x]) :=
  ⟨by rw [List.length_append, h.ln]; rfl, by rw [lc_append, show lc [x] = cell3 x by simp [lc]]; exact ho, h.bel.grown hg h.bel.size (fun g e => (h.own.lt g e).1)⟩
theorem LF.le (h : LF w2 wr A n c l) : n ≤ c := by
  obtain ⟨_, _, e, hc⟩ := own_slice h.own
  injection e with _ _ e3
  omega
theorem LF.at_ (h : LF w2 wr A n c l) (hn : n ≤ 140737488355328) : LosAt wr wr.heap.size A n l := losAt_own h.own h.ln hn
end
/-- Losses that a call told. -/
def LosOut (l : List Los) (e : Int) (w : World) (x : Ending) (w' : World) : Prop :=
  ∃ A n c, x = .returned (.tuple #[.slice A n c, .int .i64 e]) ∧ n ≤ c ∧ LosAt w' w'.heap.size A n l ∧ Below w.heap.size w w'
/-- What a row of the rest is. -/
theorem re_facts {f : Fm} {b : Box} (h : mbE b = 0) {r : Row} (hr : r ∈ re f b) : (r.kind = 2 → 0 < r.msg.keys.length) ∧ (0 ≤ r.mod ∧ r.mod ≤ 1000000) ∧ (0 ≤ r.uid ∧ r.uid ≤ 999999) ∧ r.text.size ≤ 24 := by
  have g := OlP.good_of h
  have hz : (⟨#[]⟩ : ByteArray).size = 0 := rfl
  unfold re at hr
  rcases List.mem_append.1 hr with hr | hr
  · unfold reH at hr
    split at hr
    · rw [List.mem_singleton] at hr
      subst hr
      exact ⟨fun h => absurd h (show ¬ (7 : Int) = 2 by decide), ⟨by show 0 ≤ b.high; have := g.hig; omega, by show b.high ≤ _; have := g.hig; omega⟩, ⟨by show (0 : Int) ≤ 0; decide, by show (0 : Int) ≤ 999999; decide⟩, by show (⟨#[]⟩ : ByteArray).size ≤ 24; decide⟩
    · cases hr
  rcases List.mem_append.1 hr with hr | hr
  · unfold reW at hr
    obtain ⟨s, hs, rfl⟩ := List.mem_map.1 hr
    have := (atB_size (OlP.wordsB_at g.ws s (List.mem_of_mem_drop hs))).2
    exact ⟨fun h => absurd h (show ¬ (4 : Int) = 2 by decide), ⟨by show (0 : Int) ≤ 0; decide, by show (0 : Int) ≤ 1000000; decide⟩, ⟨by show (0 : Int) ≤ 0; decide, by show (0 : Int) ≤ 999999; decide⟩, this⟩
  obtain ⟨m, hm, hr⟩ := List.mem_flatMap.1 hr
  obtain ⟨p1, p2, p3, p4, p5, p6, p7⟩ := OlP.mm_parts (g.ms m hm).1
  unfold reM at hr
  rcases List.mem_append.1 hr with hr | hr
  · unfold reA at hr
    split at hr
    · rename_i hf
      rw [List.mem_singleton] at hr
      subst hr
      refine ⟨fun _ => ?_, ⟨by show 0 ≤ m.mod; omega, by show m.mod ≤ _; omega⟩, ⟨by show 0 ≤ m.uid; omega, by show m.uid ≤ _; omega⟩, by show (⟨#[]⟩ : ByteArray).size ≤ 24; decide⟩
      show 0 < m.keys.length
      unfold flM at hf
      obtain ⟨k, hk, _⟩ := List.any_eq_true.1 hf
      exact List.length_pos_of_mem hk
    · cases hr
  rcases List.mem_append.1 hr with hr | hr
  · unfold reB at hr
    split at hr
    · rw [List.mem_singleton] at hr
      subst hr
      exact ⟨fun h => absurd h (show ¬ (5 : Int) = 2 by decide), ⟨by show (0 : Int) ≤ 0; decide, by show (0 : Int) ≤ 1000000; decide⟩, ⟨by show 0 ≤ m.uid; omega, by show m.uid ≤ _; omega⟩, (atB_size p4).2⟩
    · cases hr
  · unfold reC at hr
    split at hr
    · rw [List.mem_singleton] at hr
      subst hr
      exact ⟨fun h => absurd h (show ¬ (6 : Int) = 2 by decide), ⟨by show 0 ≤ m.mod; omega, by show m.mod ≤ _; omega⟩, ⟨by show 0 ≤ m.uid; omega, by show m.uid ≤ _; omega⟩, by show (⟨#[]⟩ : ByteArray).size ≤ 24; decide⟩
    · cases hr
theorem words_24 {b : Box} (h : mbE b = 0) : ∀ x ∈ b.words, x.size ≤ 24 := fun x hx => (atB_size (OlP.wordsB_at (OlP.good_of h).ws x hx)).2
theorem lost_len {b : Box} {f : Fm} (h : mbE b = 0) {r : Row} (hr : r ∈ re f b) : (lostT b.words r).size ≤ 1600 := by
  obtain ⟨_, h2, _, h4⟩ := re_facts h hr
  have h5 := re_keys h r hr
  unfold lostT
  split
  · show ((jn (wordsOf b.words (farK r.msg.keys))).toArray).size ≤ 1600
    rw [List.size_toArray]
    exact far_le (words_24 h) h5
  · split
    · have := dig_len (n := r.mod) (by omega) (by omega); omega
    · omega
theorem ls_sizes {b : Box} {f : Fm} (h : mbE b = 0) : ∀ x ∈ ls f b, (0 ≤ x.uid ∧ x.uid ≤ 999999) ∧ x.text.size ≤ 1600 := by
  intro x hx
  obtain ⟨r, hr, hx⟩ := List.mem_flatMap.1 hx
  obtain ⟨_, h2, h3, _⟩ := re_facts h hr
  unfold lossR at hx
  rcases List.mem_cons.1 hx with rfl | hx
  · exact ⟨h3, lost_len h hr⟩
  · split at hx
    · rw [List.mem_singleton] at hx
      subst hx
      exact ⟨h3, by show (digT r.mod).size ≤ 1600; have := dig_len (n := r.mod) (by omega) (by omega); omega⟩
    · cases hx
theorem ones3 (a b : Int) (s : ByteArray) : ∀ u ∈ (#[Value.int .i64 a, .int .i64 b, .string s] : Array Value).toList, u.oneCell' = true := by
  intro u hu
  simp at hu
  rcases hu with rfl | rfl | rfl <;> rfl
theorem lossR_one {c : Bool} {ws : List ByteArray} {r : Row} (h : ¬ (r.kind = 2 ∧ c = false ∧ r.mod ≠ 1)) : lossR c ws r = [⟨r.kind, r.uid, lostT ws r⟩] := by unfold lossR; rw [if_neg h]
theorem lossR_two {c : Bool} {ws : List ByteArray} {r : Row} (h : r.kind = 2 ∧ c = false ∧ r.mod ≠ 1) : lossR c ws r = [⟨r.kind, r.uid, lostT ws r⟩, ⟨6, r.uid, digT r.mod⟩] := by unfold lossR; rw [if_pos h]
theorem fm_c (k : Nat) (hk : k = 1 ∨ k = 2 ∨ k = 3) : (fmI k).c = false ↔ k = 1 := by
  rcases hk with rfl | rfl | rfl <;> decide
/-- What the walk of Losses reads: the box's cells, the row's cells. -/
def Both (wx : World) (P L : Nat) (b : Box) (WA MA : Option Addr) (wn wcp mn mcp : Nat) (kd ru rm u md d fl : Int) (id tx t : ByteArray) (K : Option Addr) (kl kc : Nat) : Prop :=
  wx.heap[P]? = some (.cells #[.string b.id, .int .i64 b.valid, .int .i64 b.next, .int .i64 b.high, .slice WA wn wcp, .slice MA mn mcp] 25 (0, 0)) ∧ wx.heap[L]? = some (.cells #[.int .i64 kd, .int .i64 ru, .int .i64 rm, .int .i64 u, .int .i64 md, .int .i64 d, .string id, .int .i64 fl, .slice K kl kc, .string tx, .string t] 76 (0, 0))
section
variable {wx wy : World} {P L : Nat} {b : Box} {WA MA : Option Addr} {wn wcp mn mcp : Nat} {kd ru rm u md d fl : Int} {id tx t : ByteArray} {K : Option Addr} {kl kc : Nat}
theorem Both.go (h : Both wx P L b WA MA wn wcp mn mcp kd ru rm u md d fl id tx t K kl kc) (hP : wy.heap[P]? = wx.heap[P]?) (hL : wy.heap[L]? = wx.heap[L]?) : Both wy P L b WA MA wn wcp mn mcp kd ru rm u md d fl id tx t K kl kc := ⟨hP.trans h.1, hL.trans h.2⟩
theorem Both.lt (h : Both wx P L b WA MA wn wcp mn mcp kd ru rm u md d fl id tx t K kl kc) : P < wx.heap.size ∧ L < wx.heap.size := ⟨(Array.getElem?_eq_some_iff.1 h.1).1, (Array.getElem?_eq_some_iff.1 h.2).1⟩
theorem Both.below (h : Both wx P L b WA MA wn wcp mn mcp kd ru rm u md d fl id tx t K kl kc) (hb : Below wx.heap.size wx wy) : Both wy P L b WA MA wn wcp mn mcp kd ru rm u md d fl id tx t K kl kc := h.go (hb.block P h.lt.1) (hb.block L h.lt.2)
theorem Both.alloc (h : Both wx P L b WA MA wn wcp mn mcp kd ru rm u md d fl id tx t K kl kc) (o : Obj) : Both (wx.alloc o) P L b WA MA wn wcp mn mcp kd ru rm u md d fl id tx t K kl kc := h.below ((Below.refl _ _).alloc (Nat.le_refl _) o)
theorem Both.cells (h : Both wx P L b WA MA wn wcp mn mcp kd ru rm u md d fl id tx t K kl kc) :
    (wx.cell? { block := P, off := 0 } = some (.string b.id) ∧ wx.cell? { block := P, off := 1 } = some (.int .i64 b.valid) ∧ wx.cell? { block := P, off := 2 } = some (.int .i64 b.next) ∧ wx.cell? { block := P, off := 3 } = some (.int .i64 b.high) ∧ wx.cell? { block := P, off := 4 } = some (.slice WA wn wcp) ∧ wx.cell? { block := P, off := 5 } = some (.slice MA mn mcp)) ∧ (wx.cell? { block := L, off := 0 } = some (.int .i64 kd) ∧ wx.cell? { block := L, off := 1 } = some (.int .i64 ru) ∧ wx.cell? { block := L, off := 2 } = some (.int .i64 rm) ∧ wx.cell? { block := L, off := 3 } = some (.int .i64 u) ∧ wx.cell? { block := L, off := 4 } = some (.int .i64 md) ∧ wx.cell? { block := L, off := 5 } = some (.int .i64 d) ∧ wx.cell? { block := L, off := 6 } = some (.string id) ∧ wx.cell? { block := L, off := 7 } = some (.int .i64 fl) ∧ wx.cell? { block := L, off := 8 } = some (.slice K kl kc) ∧ wx.cell? { block := L, off := 9 } = some (.string tx) ∧ wx.cell? { block := L, off := 10 } = some (.string t)) := by
  obtain ⟨a, b⟩ := h
  obtain ⟨b0, b1, b2, b3, b4, b5, _⟩ := six_at a
  have c := fun o => cell_of_row _ L o _ _ _ b
  exact ⟨⟨b0, b1, b2, b3, b4, b5⟩, ⟨(c 0).trans rfl, (c 1).trans rfl, (c 2).trans rfl, (c 3).trans rfl, (c 4).trans rfl, (c 5).trans rfl, (c 6).trans rfl, (c 7).trans rfl, (c 8).trans rfl, (c 9).trans rfl, (c 10).trans rfl⟩⟩
end
set_option maxHeartbeats 8000000 in
set_option maxRecDepth 100000 in
theorem losses_ok {k : Nat} (hk : k = 1 ∨ k = 2 ∨ k = 3) {w : World} {B wn wcp mn mcp : Nat} {WA MA : Option Addr} {b : Box} (ht : BxO.Tab w) (hx : StrsAt w B WA wn b.words) (hm : MsgsAt w B MA mn b.msgs) (hB : B ≤ w.heap.size) (hwc : wn ≤ wcp) (hmc : mn ≤ mcp) (h0 : mbE b = 0) :
    Calls Tryz.prog 25 #[.int .i64 (k : Nat), .agg #[.string b.id, .int .i64 b.valid, .int .i64 b.next, .int .i64 b.high, .slice WA wn wcp, .slice MA mn mcp]] w (LosOut (ls (fmI k) b) 0 w) := by
  have hb0 := (Below.refl w.heap.size w).alloc (Nat.le_refl _) (.cells #[.string b.id, .int .i64 b.valid, .int .i64 b.next, .int .i64 b.high, .slice WA wn wcp, .slice MA mn mcp] 25)
  have HB0 := Lib.hid hb0
  have HR0 := Lib.hid (heap_alloc_new w (.cells #[.string b.id, .int .i64 b.valid, .int .i64 b.next, .int .i64 b.high, .slice WA wn wcp, .slice MA mn mcp] 25))
  have hs0 : (w.alloc (.cells #[.string b.id, .int .i64 b.valid, .int .i64 b.next, .int .i64 b.high, .slice WA wn wcp, .slice MA mn mcp] 25)).heap.size = w.heap.size + 1 := by simp
  have HT := Lib.hid ht
  have HX := Lib.hid hx
  have HM := Lib.hid hm
  have H0 := Lib.hid h0
  have hfc := fm_c k hk
  obtain ⟨f, hf⟩ : ∃ f, f = fmI k := ⟨_, rfl⟩
  have hk1 : (k : Int) = 1 ↔ f.c = false := by rw [hf, hfc]; omega
  have KM0 := Lib.hid (make_any hk (b := b) (wcp := wcp) (mcp := mcp) (ht.below hb0 (Nat.le_refl _)) (StrsAt.below hx hb0 hB) (MsgsAt.below hm hb0 hB) (by omega) hwc hmc h0)
  rw [← hf] at KM0 ⊢
  clear hb0 ht hx hm h0 hfc hf
  have HK1 := Lib.hid hk1
  clear hk1
  go_enter Tryz.func25, Tryz.ntmps25
  go_upto_region 1 with fail
  generalize (World.alloc w _) = w1 at HB0 HR0 hs0 KM0 ⊢
  obtain ⟨b0, b1, b2, b3, b4, b5, _⟩ := six_at HR0.out
  go_upto_region 5 with (go_at_call 31; go_loud (
     refine KM0.out.mono ?_
     rintro e w2 ⟨A1, n1, c1, A2, n2, c2, rfl, hnc, hnc2, hn2, hz, hr, hb2⟩
     have hs2 := hb2.size
     have HRR := Lib.hid hr
     have HB2 := Lib.hid (HB0.out.trans (hb2.mono (by omega)))
     have HR2 := Lib.hid ((hb2.block w.heap.size (by omega)).trans HR0.out)
     clear hz hr hb2 b0 b1 b2 b3 b4 b5))
  clear KM0 HB0 HR0
  go_upto_region 6 with fail
  have HLS := Lib.hid (LF.start w2)
  go_loopw [9, 24] (fun s9 s24 wr => ∃ (j : Nat) (A : Option Addr) (n c : Nat), j ≤ n2 ∧ n ≤ 2 * j ∧ s9 = .slice A n c ∧ s24 = .int .i64 j ∧ Hid (LF w2 wr A n c (((re f b).take j).flatMap (lossR f.c b.words)))) (fun _ s24 _ => n2 - (intOf s24).toNat)
  case atStart => exact ⟨0, none, 0, 0, Nat.zero_le _, Nat.le_refl _, rfl, rfl, Lib.hid (by simpa using HLS.out)⟩
  case round =>
    clear HLS
    obtain ⟨j, A, n, c, hj, hnj, rfl, rfl, F3⟩ := hrel
    have hf3 := F3.out.bel.size
    by_cases hlt : j < n2
    · obtain ⟨ad, kd, ru, rm, u, md, d, id, fl, ks, tx, t, K, kn, kc, rfl, hab, e1, r0, r1, r2, r3, r4, r5, r6, r7, r8, r9, r10, hkc, hks, z1, z2, z3⟩ := RowsAt.sp HRR.out F3.out.bel (Nat.le_refl _) hlt
      obtain rfl := hks.len
      obtain ⟨r, hr⟩ : ∃ r : Row, r = ⟨kd, ru, rm, ⟨u, md, d, id, fl, ks, tx⟩, t⟩ := ⟨_, rfl⟩
      rw [← hr] at e1
      have hmem := List.mem_of_getElem? e1
      obtain ⟨g1, g2, g3, g4⟩ := re_facts H0.out hmem
      have g5 := re_keys H0.out r hmem
      have g6 := lost_len H0.out hmem
      rw [hr] at g1 g2 g3 g5
      dsimp only at g1 g2 g3 g5
      have HE1 := Lib.hid (show ((re f b).take (j + 1)).flatMap (lossR f.c b.words) = ((re f b).take j).flatMap (lossR f.c b.words) ++ lossR f.c b.words r by
        rw [List.take_add_one, e1, List.flatMap_append]
        simp)
      have F5 := Lib.hid (F3.out.alloc (.cells #[.int .i64 kd, .int .i64 ru, .int .i64 rm, .int .i64 u, .int .i64 md, .int .i64 d, .string id, .int .i64 fl, .slice K ks.length kc, .string tx, .string t] 76))
      have hbw := (Below.refl wr.heap.size wr).alloc (Nat.le_refl _) (.cells #[.int .i64 kd, .int .i64 ru, .int .i64 rm, .int .i64 u, .int .i64 md, .int .i64 d, .string id, .int .i64 fl, .slice K ks.length kc, .string tx, .string t] 76)
      have D5 := Lib.hid (show Both (wr.alloc (.cells #[.int .i64 kd, .int .i64 ru, .int .i64 rm, .int .i64 u, .int .i64 md, .int .i64 d, .string id, .int .i64 fl, .slice K ks.length kc, .string tx, .string t] 76)) w.heap.size wr.heap.size b WA MA wn wcp mn mcp kd ru rm u md d fl id tx t K ks.length kc from ⟨(hbw.block w.heap.size (by omega)).trans ((F3.out.bel.block w.heap.size (by omega)).trans HR2.out), heap_alloc_new wr _⟩)
      have KL0 := fun (wx : World) (hbx : Below (wr.alloc (.cells #[.int .i64 kd, .int .i64 ru, .int .i64 rm, .int .i64 u, .int .i64 md, .int .i64 d, .string id, .int .i64 fl, .slice K ks.length kc, .string tx, .string t] 76)).heap.size (wr.alloc (.cells #[.int .i64 kd, .int .i64 ru, .int .i64 rm, .int .i64 u, .int .i64 md, .int .i64 d, .string id, .int .i64 fl, .slice K ks.length kc, .string tx, .string t] 76)) wx) => lost_any (b := b) (wc := wcp) (MA := MA) (mn := mn) (mc := mcp) (kd := kd) (ru := ru) (rm := rm) (u := u) (md := md) (d := d) (fl := fl) (id := id) (tx := tx) (t := t) (kc := kc) (w := wx) (B := w2.heap.size) (HT.out.below (HB2.out.trans ((F5.out.bel.trans (hbx.mono (by simp; omega))).mono (by omega))) (Nat.le_refl _)) (StrsAt.more (StrsAt.below HX.out (HB2.out.trans ((F5.out.bel.trans (hbx.mono (by simp; omega))).mono (by omega))) hB) (by omega)) (IntsAt.below hks (hbw.trans (hbx.mono (by simp))) (by omega)) (by have := hbx.size; simp at this; omega) g5 (words_24 H0.out) g1 (by omega) (by omega)
      rw [← hr] at KL0
      obtain ⟨tt, htt⟩ : ∃ tt, tt = lostT b.words r := ⟨_, rfl⟩
      rw [← htt] at KL0 g6
      have KL := Lib.hid KL0
      have HTT := Lib.hid htt
      have KI0 := fun (wx : World) (hb : Below w.heap.size w wx) => itoa_any (n := rm) (HT.out.below hb (Nat.le_refl _)) (by omega) (by omega)
      obtain ⟨t2, ht2⟩ : ∃ t2, t2 = digT rm := ⟨_, rfl⟩
      rw [← ht2] at KI0
      have KI := Lib.hid KI0
      have HT2 := Lib.hid ht2
      have hsz5 : (wr.alloc (.cells #[.int .i64 kd, .int .i64 ru, .int .i64 rm, .int .i64 u, .int .i64 md, .int .i64 d, .string id, .int .i64 fl, .slice K ks.length kc, .string tx, .string t] 76)).heap.size = wr.heap.size + 1 := by simp
      have HR := Lib.hid hr
      clear e1 hks hmem KL0 htt KI0 ht2 hbw hr
      go_upto_region 8 with fail
      clear r0 r1 r2 r3 r4 r5 r6 r7 r8 r9 r10
      obtain ⟨L, hL⟩ : ∃ L, L = wr.heap.size := ⟨_, rfl⟩
      rw [← hL] at D5 hsz5 ⊢
      have hLb : w2.heap.size ≤ L := by omega
      have HOL := Lib.hid (fun (g : Nat) (e : (Value.slice A n c).ownBlock = some g) => (F3.out.own.lt g e).2)
      rw [← hL] at HOL
      clear hL
      generalize (World.alloc wr _) = w5 at F5 D5 hsz5 KL ⊢
      have bd5 := (Below.refl w5.heap.size w5).drew
      have SD := (Both.go (wy := w5.drew) D5.out rfl rfl).cells
      go_region_held3 (fun wx => (wx.cell? { block := w.heap.size, off := 0 } = some (.string b.id) ∧ wx.cell? { block := w.heap.size, off := 1 } = some (.int .i64 b.valid) ∧ wx.cell? { block := w.heap.size, off := 2 } = some (.int .i64 b.next) ∧ wx.cell? { block := w.heap.size, off := 3 } = some (.int .i64 b.high) ∧ wx.cell? { block := w.heap.size, off := 4 } = some (.slice WA wn wcp) ∧ wx.cell? { block := w.heap.size, off := 5 } = some (.slice MA mn mcp)) ∧ (wx.cell? { block := L, off := 0 } = some (.int .i64 kd) ∧ wx.cell? { block := L, off := 1 } = some (.int .i64 ru) ∧ wx.cell? { block := L, off := 2 } = some (.int .i64 rm) ∧ wx.cell? { block := L, off := 3 } = some (.int .i64 u) ∧ wx.cell? { block := L, off := 4 } = some (.int .i64 md) ∧ wx.cell? { block := L, off := 5 } = some (.int .i64 d) ∧ wx.cell? { block := L, off := 6 } = some (.string id) ∧ wx.cell? { block := L, off := 7 } = some (.int .i64 fl) ∧ wx.cell? { block := L, off := 8 } = some (.slice K ks.length kc) ∧ wx.cell? { block := L, off := 9 } = some (.string tx) ∧ wx.cell? { block := L, off := 10 } = some (.string t))) (with_reducible first | exact SD | exact D6.out.cells | exact (D6.out.alloc _).cells | exact D7.out.cells | go_keep) (first
        | (go_at_call 63
           ((with_reducible refine (KL.out _ ?d1).mono ?_); rotate_left)
           case d1 => first | exact bd5 | exact Below.refl _ _
           go_loud (
           rintro e w6 ⟨rfl, hb6⟩
           have hb6 : Below w5.heap.size w5 w6 := ⟨hb6.os, hb6.tape, hb6.output, hb6.size, hb6.block⟩
           have F6 := Lib.hid (F5.out.go hb6)
           have D6 := Lib.hid (D5.out.below hb6)
           have hs6 := hb6.size
           have O6 := Lib.hid (F6.out.own.alloc (.cells #[.int .i64 kd, .int .i64 ru, .string tt] 50))
           have S6 := Lib.hid (src_new w6 #[.int .i64 kd, .int .i64 ru, .string tt] 50 (b := w6.heap.size) (m := 1) (sz := 3) rfl rfl (ones3 _ _ _))
           have Z6 := Lib.hid (show w2.heap.size ≤ (w6.alloc (.cells #[.int .i64 kd, .int .i64 ru, .string tt] 50)).heap.size by simp; omega)
           clear hb6
           dsimp only))
        | (go_loud (
           refine step_rows elL (c := 1) rfl (.tmp 28) (.tmp 37) rfl (by simp [Act.eval]) (by simp [Act.eval]) O6.out S6.out (by unfold maxLen; omega) (by omega) Z6.out ?_
           intro v7 w7 hown7 hg7 hn7
           obtain ⟨A7, c7, rfl, hc7⟩ := own_slice hown7
           have F7 := Lib.hid (LF.app (x := ⟨kd, ru, tt⟩) (F6.out.alloc (.cells #[.int .i64 kd, .int .i64 ru, .string tt] 50)) hown7 hg7)
           have D7 := Lib.hid (Both.go (wy := w7) (D6.out.alloc (.cells #[.int .i64 kd, .int .i64 ru, .string tt] 50)) (hg7.block w.heap.size (by simp; omega) (fun e => by have := (F6.out.own.lt _ e.symm).1; omega)) (hg7.block L (by simp; omega) (fun e => by
             have := HOL.out _ e.symm
             omega)))
           have LN7 := Lib.hid (show ∀ g : Nat, (Value.slice A7 (n + 1) c7).ownBlock = some g → g = L → False from fun g e hg => by
             subst hg
             rcases hn7 with h | h
             · rw [h] at e
               have := HOL.out _ e
               omega
             · rw [h] at e
               have := Option.some.inj e
               simp at this
               omega)
           clear hown7 hg7 hn7
           dsimp only)))
      rename_i hHeld
      clear hHeld
      go_upto_region 9 with fail
      clear KL O6 S6 Z6 F6 D6 F5 D5 SD bd5
      have hs7 := F7.out.bel.size
      have hl7 := D7.out.lt
      obtain ⟨_, r0, r1, r2, r3, r4, r5, r6, r7, r8, r9, r10⟩ := D7.out.cells
      by_cases hz : kd = 2 ∧ (k : Int) = 1 ∧ rm ≠ 1
      case neg =>
        have FE := Lib.hid (show LF w2 w7 A7 (n + 1) c7 (((re f b).take (j + 1)).flatMap (lossR f.c b.words)) by
          rw [HE1.out, lossR_one (r := r) (by rw [HR.out]; dsimp only; rw [← HK1.out]; exact hz), ← HTT.out]
          rw [HR.out]
          exact F7.out)
        clear HE1 HR HTT HT2 F7
        by_cases k2 : kd = 2
        case neg =>
          have k2b : (kd == 2) = false := by simpa using k2
          go_wp2_with fail
          go_roundw
          case rel => exact ⟨j + 1, A7, n + 1, c7, by omega, by omega, rfl, by go_num, FE⟩
          case measure => simp [intOf]; omega
        subst k2
        by_cases k1 : (k : Int) = 1
        case neg =>
          have k1b : ((k : Int) == 1) = false := by simpa using k1
          go_wp2_with fail
          go_roundw
          case rel => exact ⟨j + 1, A7, n + 1, c7, by omega, by omega, rfl, by go_num, FE⟩
          case measure => simp [intOf]; omega
        have hr1 : rm = 1 := Classical.byContradiction fun h => hz ⟨rfl, k1, h⟩
        subst hr1
        have k1b : ((k : Int) == 1) = true := by simpa using k1
        go_wp2_with fail
        go_roundw
        case rel => exact ⟨j + 1, A7, n + 1, c7, by omega, by omega, rfl, by go_num, FE⟩
        case measure => simp [intOf]; omega
      obtain ⟨k2, k1, hr1⟩ := hz
      have HE2 := Lib.hid (show ((re f b).take (j + 1)).flatMap (lossR f.c b.words) = (((re f b).take j).flatMap (lossR f.c b.words) ++ [⟨kd, ru, tt⟩]) ++ [⟨6, ru, t2⟩] by
        rw [HE1.out, lossR_two (r := r) (by rw [HR.out]; dsimp only; rw [← HK1.out]; exact ⟨k2, k1, hr1⟩), ← HTT.out, HT2.out, List.append_assoc]
        rw [HR.out]
        rfl)
      clear HE1 HTT HR HT2
      have k2b : (kd == 2) = true := by simpa using k2
      have k1b : ((k : Int) == 1) = true := by simpa using k1
      have r1b : (rm == 1) = false := by simpa using hr1
      have r1c : (rm != 1) = true := by simpa using hr1
      go_upto_region 10 with fail
      have hbw7 : Below w.heap.size w w7 := HB2.out.trans (F7.out.bel.mono (by omega))
      have bd7 := hbw7.drew
      have SD := (Both.go (wy := w7.drew) D7.out rfl rfl).cells
      clear r0 r1 r2 r3 r4 r5 r6 r7 r8 r9 r10
      go_region_held3 (fun wx => (wx.cell? { block := w.heap.size, off := 0 } = some (.string b.id) ∧ wx.cell? { block := w.heap.size, off := 1 } = some (.int .i64 b.valid) ∧ wx.cell? { block := w.heap.size, off := 2 } = some (.int .i64 b.next) ∧ wx.cell? { block := w.heap.size, off := 3 } = some (.int .i64 b.high) ∧ wx.cell? { block := w.heap.size, off := 4 } = some (.slice WA wn wcp) ∧ wx.cell? { block := w.heap.size, off := 5 } = some (.slice MA mn mcp)) ∧ (wx.cell? { block := L, off := 0 } = some (.int .i64 kd) ∧ wx.cell? { block := L, off := 1 } = some (.int .i64 ru) ∧ wx.cell? { block := L, off := 2 } = some (.int .i64 rm) ∧ wx.cell? { block := L, off := 3 } = some (.int .i64 u) ∧ wx.cell? { block := L, off := 4 } = some (.int .i64 md) ∧ wx.cell? { block := L, off := 5 } = some (.int .i64 d) ∧ wx.cell? { block := L, off := 6 } = some (.string id) ∧ wx.cell? { block := L, off := 7 } = some (.int .i64 fl) ∧ wx.cell? { block := L, off := 8 } = some (.slice K ks.length kc) ∧ wx.cell? { block := L, off := 9 } = some (.string tx) ∧ wx.cell? { block := L, off := 10 } = some (.string t))) (with_reducible first | exact SD | exact D8.out.cells | exact (D8.out.alloc _).cells | exact D9.out.cells | go_keep) (first
        | (go_at_call 64
           ((with_reducible refine (KI.out _ ?d1).mono ?_); rotate_left)
           case d1 => first | exact bd7 | exact hbw7
           go_loud (
           rintro e w8 ⟨rfl, hb8⟩
           have hb8 : Below w7.heap.size w7 w8 := ⟨hb8.os, hb8.tape, hb8.output, hb8.size, hb8.block⟩
           have F8 := Lib.hid (F7.out.go hb8)
           have D8 := Lib.hid (D7.out.below hb8)
           have hs8 := hb8.size
           have O8 := Lib.hid (F8.out.own.alloc (.cells #[.int .i64 6, .int .i64 ru, .string t2] 50))
           have S8 := Lib.hid (src_new w8 #[.int .i64 6, .int .i64 ru, .string t2] 50 (b := w8.heap.size) (m := 1) (sz := 3) rfl rfl (ones3 _ _ _))
           have Z8 := Lib.hid (show w2.heap.size ≤ (w8.alloc (.cells #[.int .i64 6, .int .i64 ru, .string t2] 50)).heap.size by simp; omega)
           have HOL8 := Lib.hid (fun (g : Nat) (e : (Value.slice A7 (n + 1) c7).ownBlock = some g) (hg : g = L) => LN7.out g e hg)
           clear hb8
           dsimp only))
        | (go_loud (
           refine step_rows elL (c := 1) rfl (.tmp 51) (.tmp 58) rfl (by simp [Act.eval]) (by simp [Act.eval]) O8.out S8.out (by unfold maxLen; omega) (by omega) Z8.out ?_
           intro v9 w9 hown9 hg9 _
           obtain ⟨A9, c9, rfl, hc9⟩ := own_slice hown9
           have F9 := Lib.hid (LF.app (x := ⟨6, ru, t2⟩) (F8.out.alloc (.cells #[.int .i64 6, .int .i64 ru, .string t2] 50)) hown9 hg9)
           have D9 := Lib.hid (Both.go (wy := w9) (D8.out.alloc (.cells #[.int .i64 6, .int .i64 ru, .string t2] 50)) (hg9.block w.heap.size (by simp; omega) (fun e => by have := (F8.out.own.lt _ e.symm).1; omega)) (hg9.block L (by simp; omega) (fun e => HOL8.out _ e.symm rfl)))
           clear hown9 hg9
           dsimp only)))
      rename_i hHeld
      clear hHeld
      go_wp2_with fail
      have FE := Lib.hid (show LF w2 w9 A9 (n + 2) c9 (((re f b).take (j + 1)).flatMap (lossR f.c b.words)) by rw [HE2.out]; exact F9.out)
      go_roundw
      case rel => exact ⟨_, _, _, ⟨j + 1, by omega, A9, n + 2, by omega, c9, rfl, rfl, FE⟩, rfl, rfl, by go_num⟩
      case measure => simp [intOf]; omega
    · obtain rfl : n2 = j := by omega
      have FE := Lib.hid (show LF w2 wr A n c (ls f b) by
        have := F3.out
        rw [List.take_of_length_le (by rw [HRR.out.len]; exact Nat.le_refl _)] at this
        exact this)
      clear F3
      go_wp2_with fail
      refine bodyPost_ret (v := .tuple #[.slice A n c, .int .i64 0]) (by rw [results_tmp2 (t := 4) (u := 5) rfl]; rfl) rfl ?_
      exact ⟨A, n, c, rfl, FE.out.le, FE.out.at_ (by omega), HB2.out.trans (FE.out.bel.mono (by omega))⟩
end Go.Proofs.YtchlbbndfhibgaaGreatDoor.LwL

namespace Go.Proofs.YtchlbbndfhibgaaGreatDoor.LwP
open Go.RowKit Go.Proofs.YtchlbbndfhibgaaGreatDoor.BxD Go.Proofs.YtchlbbndfhibgaaGreatDoor.BxKit Go.Proofs.YtchlbbndfhibgaaGreatDoor.OlD Go.Proofs.YtchlbbndfhibgaaGreatDoor.PtK Go.Proofs.YtchlbbndfhibgaaGreatDoor.RwD Go.Proofs.YtchlbbndfhibgaaGreatDoor.RwKit Go.Proofs.YtchlbbndfhibgaaGreatDoor.ImD Go.Proofs.YtchlbbndfhibgaaGreatDoor.ImA Go.Proofs.YtchlbbndfhibgaaGreatDoor.ImP Go.Proofs.YtchlbbndfhibgaaGreatDoor.ImN Go.Proofs.YtchlbbndfhibgaaGreatDoor.ImL
open Go.Proofs.YtchlbbndfhibgaaGreatDoor.PkKit (BytesAt)

/-- What lies in new blocks, whatever else turns. -/
theorem lie_of {w' : World} {lo hi : Nat} {WA MA : Option Addr} {wn mn : Nat} {ws : List ByteArray} {ms : List Msg} (h : ∀ W : World, (∀ k, lo ≤ k → k < hi → W.heap[k]? = w'.heap[k]?) → hi ≤ W.heap.size → StrsAt W W.heap.size WA wn ws ∧ MsgsAt W W.heap.size MA mn ms) : Lie lo hi w' WA wn ws MA mn ms := fun W2 hs hk => by
  obtain ⟨W3, h3⟩ : ∃ W3 : World, W3 = { W2 with heap := W2.heap.extract 0 hi } := ⟨_, rfl⟩
  have e : W3.heap.size = hi := by rw [h3]; simp; omega
  have c : ∀ k, k < hi → W3.heap[k]? = W2.heap[k]? := fun k hk => by
    rw [h3]
    show (W2.heap.extract 0 hi)[k]? = W2.heap[k]?
    rw [Array.getElem?_extract]
    simp
    omega
  obtain ⟨a, d⟩ := h W3 (fun k h1 h2 => (c k h2).trans (hk k h1 h2)) (by omega)
  rw [e] at a d
  exact ⟨StrsAt.keep a (Nat.le_refl _) fun p hp => World.cell?_of_block (c p.block hp).symm, MsgsAt.keep d (Nat.le_refl _) fun p hp => World.cell?_of_block (c p.block hp).symm⟩
set_option maxHeartbeats 4000000 in
set_option maxRecDepth 100000 in
theorem project_ok {k : Nat} (hk : k = 1 ∨ k = 2 ∨ k = 3) {w : World} {B wn wcp mn mcp : Nat} {WA MA : Option Addr} {b : Box} (ht : BxO.Tab w) (hx : StrsAt w B WA wn b.words) (hm : MsgsAt w B MA mn b.msgs) (hB : B ≤ w.heap.size) (hwc : wn ≤ wcp) (hmc : mn ≤ mcp) (h0 : mbE b = 0) :
    Calls Tryz.prog 23 #[.int .i64 (k : Nat), .agg #[.string b.id, .int .i64 b.valid, .int .i64 b.next, .int .i64 b.high, .slice WA wn wcp, .slice MA mn mcp]] w (BoxOut (pj (fmI k) b) 0 w) := by
  have hb0 := (Below.refl w.heap.size w).alloc (Nat.le_refl _) (.cells #[.string b.id, .int .i64 b.valid, .int .i64 b.next, .int .i64 b.high, .slice WA wn wcp, .slice MA mn mcp] 25)
  have hs0 : (w.alloc (.cells #[.string b.id, .int .i64 b.valid, .int .i64 b.next, .int .i64 b.high, .slice WA wn wcp, .slice MA mn mcp] 25)).heap.size = w.heap.size + 1 := by simp
  have hb1 := hb0.alloc hb0.size (.cells zbox 25)
  have hr1 := heap_alloc_new (w.alloc (.cells #[.string b.id, .int .i64 b.valid, .int .i64 b.next, .int .i64 b.high, .slice WA wn wcp, .slice MA mn mcp] 25)) (.cells zbox 25)
  have hr0 := (heap_alloc_old (w.alloc (.cells #[.string b.id, .int .i64 b.valid, .int .i64 b.next, .int .i64 b.high, .slice WA wn wcp, .slice MA mn mcp] 25)) (.cells zbox 25) (show w.heap.size < _ by rw [hs0]; omega)).trans (heap_alloc_new w (.cells #[.string b.id, .int .i64 b.valid, .int .i64 b.next, .int .i64 b.high, .slice WA wn wcp, .slice MA mn mcp] 25))
  have hs1 : ((w.alloc (.cells #[.string b.id, .int .i64 b.valid, .int .i64 b.next, .int .i64 b.high, .slice WA wn wcp, .slice MA mn mcp] 25)).alloc (.cells zbox 25)).heap.size = w.heap.size + 2 := by simp
  have KM0 := make_any hk (b := b) (wcp := wcp) (mcp := mcp) (ht.below hb1 (Nat.le_refl _)) (StrsAt.below hx hb1 hB) (MsgsAt.below hm hb1 hB) (by omega) hwc hmc h0
  rw [hs0] at hr1
  unfold zbox at hb1 hr1 hr0 hs1 KM0
  have HB0 := Lib.hid hb1
  have HR0 := Lib.hid hr0
  have HQ0 := Lib.hid hr1
  have KM := Lib.hid KM0
  have HT := Lib.hid ht
  have H0 := Lib.hid h0
  have HK := Lib.hid hk
  obtain ⟨pb, hpb⟩ : ∃ pb, pb = pj (fmI k) b := ⟨_, rfl⟩
  rw [← hpb]
  have HPB := Lib.hid hpb
  clear hpb
  clear hb0 hb1 hr1 hr0 hs0 ht hx hm h0 KM0 hk
  go_enter Tryz.func23, Tryz.ntmps23
  go_upto_region 1 with fail
  generalize (World.alloc (World.alloc w _) _) = w1 at HB0 HR0 HQ0 KM hs1 ⊢
  obtain ⟨b0, b1, b2, b3, b4, b5, _⟩ := six_at HR0.out
  go_upto_region 4 with (go_at_call 31; go_loud (
     refine KM.out.mono ?_
     rintro e w2 ⟨A1, n1, c1, A2, n2, c2, rfl, hnc, hnc2, hn2, hz, hr, hb2⟩
     have hs2 := hb2.size
     have HB2 := Lib.hid (HB0.out.trans (hb2.mono (by omega)))
     have HR2 := Lib.hid ((hb2.block w.heap.size (by omega)).trans HR0.out)
     have HQ2 := Lib.hid ((hb2.block (w.heap.size + 1) (by omega)).trans HQ0.out)
     have kp := parse_any (id := b.id) (cp := c1) (HT.out.below HB2.out (Nat.le_refl _)) hz (Nat.le_refl _) hnc (by have h1 := hz.1; have h2 := raw_len (k := k) H0.out; omega) (by have := (OlP.good_of H0.out).ids; omega)
     rw [raw_parse HK.out H0.out, ← HPB.out] at kp
     have KP := Lib.hid kp
     clear hz hr hb2 b0 b1 b2 b3 b4 b5 kp))
  clear KM HB0 HR0 HQ0
  obtain ⟨b0, b1, b2, b3, b4, b5, _⟩ := six_at HR2.out
  go_wp2_with (go_at_call 32; go_loud (
       refine KP.out.mono ?_
       rintro e w5 ⟨WA2, wn2, wc2, MA2, mn2, mc2, rfl, hwc, hmc, hn5, hb5⟩
       have HN5 := Lib.hid hn5
       have hs5 := hb5.size
       have HB5 := Lib.hid (HB2.out.trans (hb5.mono (by omega)))
       have HQ5 := Lib.hid ((hb5.block (w.heap.size + 1) (by omega)).trans HQ2.out)
       clear b0 b1 b2 b3 b4 b5
       obtain ⟨z0, z1, z2, z3, z4, z5, zf⟩ := zcells6 HQ5.out
       have f0 := zf 0
       have f1 := zf 1
       have f2 := zf 2
       have f3 := zf 3
       have f4 := zf 4
       have f5 := zf 5
       clear zf hn5 hb5))
  obtain ⟨W, hW, p0, p1, p2, p3, p4, p5, hWg⟩ := ret6 HQ5.out (.string pb.id) (.int .i64 pb.valid) (.int .i64 pb.next) (.int .i64 pb.high) (.slice WA2 wn2 wc2) (.slice MA2 mn2 mc2)
  rw [← hW]
  refine bodyPost_ret (v := .tuple #[.agg #[.string pb.id, .int .i64 pb.valid, .int .i64 pb.next, .int .i64 pb.high, .slice WA2 wn2 wc2, .slice MA2 mn2 mc2], .int .i64 0]) (by simp [results, Tryz.results23, go_sem, p0, p1, p2, p3, p4, p5]) rfl ?_
  have hsW := hWg.size
  refine ⟨WA2, wn2, wc2, MA2, mn2, mc2, rfl, hwc, hmc, lie_of fun W2 hW2 hW3 => HN5.out W2 (fun k h1 h2 => ?_) (by omega), HB5.out.grown hWg (by omega) (fun k e => by have : w.heap.size + 1 = k := Option.some.inj e; omega)⟩
  exact (hW2 k (by omega) (by omega)).trans (hWg.block k h2 (fun e => by have : k = w.heap.size + 1 := Option.some.inj e; omega))
end Go.Proofs.YtchlbbndfhibgaaGreatDoor.LwP

namespace Go.Proofs.YtchlbbndfhibgaaGreatDoor.LwS
open Go.RowKit Go.Proofs.YtchlbbndfhibgaaGreatDoor.BxD Go.Proofs.YtchlbbndfhibgaaGreatDoor.BxKit Go.Proofs.YtchlbbndfhibgaaGreatDoor.BxS Go.Proofs.YtchlbbndfhibgaaGreatDoor.BxX Go.Proofs.YtchlbbndfhibgaaGreatDoor.RwKit Go.Proofs.YtchlbbndfhibgaaGreatDoor.ImD Go.Proofs.YtchlbbndfhibgaaGreatDoor.ImL Go.Proofs.YtchlbbndfhibgaaGreatDoor.LwD Go.Proofs.YtchlbbndfhibgaaGreatDoor.LwL Go.Proofs.YtchlbbndfhibgaaGreatDoor.LwP

section
variable {w wr : World} {P wn wc mn mc : Nat} {WA MA : Option Addr} {b : Box}
theorem project_sb {k : Nat} (hk : k = 1 ∨ k = 2 ∨ k = 3) (ht : BxO.Tab wr) (h : Sb w wr P b WA wn wc MA mn mc) (h0 : mbE b = 0) :
    Calls Tryz.prog 23 #[.int .i64 (k : Nat), .agg #[.string b.id, .int .i64 b.valid, .int .i64 b.next, .int .i64 b.high, .slice WA wn wc, .slice MA mn mc]] wr (BoxOut (pj (fmI k) b) 0 wr) :=
  project_ok hk ht h.ws h.ms (Nat.le_refl _) h.hwc h.hmc h0
theorem losses_sb {k : Nat} (hk : k = 1 ∨ k = 2 ∨ k = 3) (ht : BxO.Tab wr) (h : Sb w wr P b WA wn wc MA mn mc) (h0 : mbE b = 0) :
    Calls Tryz.prog 25 #[.int .i64 (k : Nat), .agg #[.string b.id, .int .i64 b.valid, .int .i64 b.next, .int .i64 b.high, .slice WA wn wc, .slice MA mn mc]] wr (LosOut (ls (fmI k) b) 0 wr) :=
  losses_ok hk ht h.ws h.ms (Nat.le_refl _) h.hwc h.hmc h0
theorem same_sb {Q wn' wc' mn' mc' : Nat} {WA' MA' : Option Addr} {c : Box} (h : Sb w wr P b WA wn wc MA mn mc) (h' : Sb w wr Q c WA' wn' wc' MA' mn' mc') :
    Calls Tryz.prog 27 #[.agg #[.string b.id, .int .i64 b.valid, .int .i64 b.next, .int .i64 b.high, .slice WA wn wc, .slice MA mn mc], .agg #[.string c.id, .int .i64 c.valid, .int .i64 c.next, .int .i64 c.high, .slice WA' wn' wc', .slice MA' mn' mc']] wr fun e w' => e = .returned (.bool (eqX b c)) ∧ Below wr.heap.size wr w' :=
  refSame_any (bid := b.id) (bv := b.valid) (bn := b.next) (bh := b.high) (wc := wc) (mc := mc) (bid' := c.id) (bv' := c.valid) (bn' := c.next) (bh' := c.high) (wc' := wc') (mc' := mc') h.ws h.ms h'.ws h'.ms (Nat.le_refl _) (Nat.le_refl _) (Nat.le_refl _) (Nat.le_refl _)
theorem same_eq {Q wn' wc' mn' mc' : Nat} {WA' MA' : Option Addr} {c : Box} (h : Sb w wr P b WA wn wc MA mn mc) (h' : Sb w wr Q c WA' wn' wc' MA' mn' mc') (e : b = c) :
    Calls Tryz.prog 27 #[.agg #[.string b.id, .int .i64 b.valid, .int .i64 b.next, .int .i64 b.high, .slice WA wn wc, .slice MA mn mc], .agg #[.string c.id, .int .i64 c.valid, .int .i64 c.next, .int .i64 c.high, .slice WA' wn' wc', .slice MA' mn' mc']] wr fun e w' => e = .returned (.bool true) ∧ Below wr.heap.size wr w' :=
  (same_sb h h').mono fun _ _ ⟨h1, h2⟩ => ⟨by rw [h1, eqX_eq e], h2⟩
end
/-- Losses in memory. -/
structure Lk (wr : World) (A : Option Addr) (n c : Nat) (l : List Los) : Prop where
  le : n ≤ c
  at_ : LosAt wr wr.heap.size A n l
theorem Lk.go {wr w2 : World} {A : Option Addr} {n c : Nat} {l : List Los} (h : Lk wr A n c l) (hb : Below wr.heap.size wr w2) : Lk w2 A n c l := ⟨h.le, LosAt.more (LosAt.below h.at_ hb (Nat.le_refl _)) hb.size⟩
theorem Lk.len {wr : World} {A : Option Addr} {n c : Nat} {l : List Los} (h : Lk wr A n c l) : l.length = n := h.at_.len
end Go.Proofs.YtchlbbndfhibgaaGreatDoor.LwS
