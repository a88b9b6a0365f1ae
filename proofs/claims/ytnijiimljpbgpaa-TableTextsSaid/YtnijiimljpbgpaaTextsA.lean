/-
  Two tables of texts side by side: what the law of texts carries from round to round.
-/
import Derived.Test.YtnijiimljpbgpaaPutS
import Derived.Test.YtnijiimljpbgpaaRdS
import Derived.Test.YtnijiimljpbgpaaKeysS
import Derived.Test.YtnijiimljpbgpaaKitS
namespace Go.Proofs.Ytnijiimljpbgpaa.TS
open Go.RowKit Go.Proofs.Ytnijiimljpbgpaa.Kit Go.Proofs.Ytnijiimljpbgpaa.Arg

set_option maxHeartbeats 400000 in
theorem new_row (most : Int) (w : World) :
    Calls Try.prog 19 #[.int .i64 most] w fun e w' => e = .returned (.pointer (some ⟨w.heap.size, 0, none⟩)) ∧ Row w' w.heap.size 65 [.int .i64 (rm most : Nat), .slice none 0 0] ∧ Below w.heap.size w w' := by
  have hfin : ∀ a : Int, a = min (max most 0) 1000 → Row (w.alloc (.cells #[.int .i64 a, .slice none 0 0] 65)) w.heap.size 65 [.int .i64 (rm most : Nat), .slice none 0 0] := by
    intro a ha
    have h1 : (rm most : Int) = a := by rw [ha]; unfold rm; omega
    rw [h1]
    exact heap_alloc_new w _
  have HF := Lib.hid hfin
  clear hfin
  go_enter Try.func19, Try.ntmps19
  go_wp2
  all_goals (go_ret; exact ⟨rfl, HF.out _ (by omega), below_alloc _ _⟩)

theorem tab_of_row {w : World} {T room base : Nat} (h : Row w T 65 [.int .i64 (room : Nat), .slice none 0 0]) (hr : room ≤ 1000) (hb : base ≤ w.heap.size) : Tab w base T room [] :=
  ⟨List.Pairwise.nil, Nat.zero_le _, hr, _, h, hb, World.ownsRow_nil _ _ _ _⟩

/-- A table all of which lies below block B. -/
structure Low (B : Nat) (w : World) (T base room : Nat) (ps : List PR) : Prop where
  srt : Srt Cmp.cmpS ps
  len : ps.length ≤ room
  room_le : room ≤ 1000
  lay : ∃ V, Row w T 65 [.int .i64 room, V] ∧ T < B ∧ base ≤ w.heap.size ∧ w.ownsRow base 68 2 V ps.length (cells ps) ∧ ∀ g, V.ownBlock = some g → g < B

theorem Low.of_tab {w : World} {T base room : Nat} {ps : List PR} (h : Tab w base T room ps) : Low w.heap.size w T base room ps := by
  obtain ⟨h1, h2, h3, V, hT, hB, ho⟩ := h
  exact ⟨h1, h2, h3, V, hT, hT.lt, hB, ho, fun g hg => (ho.lt g hg).2⟩
theorem Low.tab {B : Nat} {w : World} {T base room : Nat} {ps : List PR} (h : Low B w T base room ps) : Tab w base T room ps := by
  obtain ⟨h1, h2, h3, V, hT, _, hB, ho, _⟩ := h
  exact ⟨h1, h2, h3, V, hT, hB, ho⟩
theorem Low.keep {B : Nat} {w w' : World} {T base room T' : Nat} {ps : List PR} (h : Low B w T base room ps) (hf : Fr B T' w w') {l : List Value} (hT' : Row w T' 65 l) (hne : T ≠ T') : Low B w' T base room ps := by
  obtain ⟨h1, h2, h3, V, hT, hlt, hB, ho, hg⟩ := h
  exact ⟨h1, h2, h3, V, hf.low hT hne hlt, hlt, Nat.le_trans hB hf.size, hf.owns_low hT' ho (by decide) hg, hg⟩

/-- The first half: t is filled, u is empty; the texts to put are the call's own. -/
structure L1 (w wr : World) (T T2 : Nat) (A5 : Option Addr) (n c5 : Nat) (rs : List ByteArray) (j : Nat) (ps : List PR) : Prop where
  tab : Tab wr T T 200 ps
  head : Row wr T2 65 [.int .i64 (200 : Nat), .slice none 0 0]
  own : ∃ b, wr.ownsRow b 9 1 (.slice A5 n c5) n (rs.map (fun z => Value.string z))
  bel : Below T w wr
  nam : ∀ x, x ∈ ps.map (·.1) ↔ x ∈ rs.take j
  val : ∀ p ∈ ps, p.2 = p.1
  len : ps.length ≤ j
  ne : T < T2

theorem take_mem {α : Type} {l : List α} {j : Nat} {x : α} (h : l[j]? = some x) (y : α) : y ∈ l.take (j + 1) ↔ y = x ∨ y ∈ l.take j := by
  have hj := (List.getElem?_eq_some_iff.1 h).1
  rw [List.take_succ_eq_append_getElem hj, (List.getElem?_eq_some_iff.1 h).2, List.mem_append, List.mem_singleton]
  exact ⟨fun h => h.symm, fun h => h.symm⟩

theorem L1.step {w wr w2 : World} {T T2 : Nat} {A5 : Option Addr} {n c5 : Nat} {rs : List ByteArray} {j : Nat} {ps : List PR} (h : L1 w wr T T2 A5 n c5 rs j ps) {x : ByteArray} (hx : rs[j]? = some x)
    (ht : Tab w2 T T 200 (put Cmp.cmpS x x ps)) (hf : Fr T T wr w2) : L1 w w2 T T2 A5 n c5 rs (j + 1) (put Cmp.cmpS x x ps) := by
  obtain ⟨h1, h2, ⟨b, h3⟩, h4, h5, h6, h7, h8⟩ := h
  obtain ⟨lT, hT⟩ := h1.head
  refine ⟨ht, hf.row h2 (by omega) (by decide), ⟨b, hf.owns hT h3 (by decide) (by decide)⟩, h4.trans (hf.below (Nat.le_refl _) (Nat.le_refl _) h1.base_le), fun y => ?_, fun p hp => ?_, Nat.le_trans length_put_le (by omega), h8⟩
  · rw [names_put Cmp.ordS, take_mem hx, h5]
  · rcases mem_put hp with rfl | hp
    · rfl
    · exact h6 p hp

/-- The second half: u is filled, t lies aside. -/
structure L2 (w wr : World) (T T2 B : Nat) (ps : List PR) (zs : List ByteArray) (j : Nat) (qs : List PR) : Prop where
  low : Low B wr T T 200 ps
  tab : Tab wr B T2 200 qs
  bel : Below T w wr
  nam : ∀ x, x ∈ qs.map (·.1) ↔ x ∈ zs.take j
  len : qs.length ≤ j
  ne : T < T2
  tb : T ≤ B

theorem L1.half {w wr : World} {T T2 : Nat} {A5 : Option Addr} {n c5 : Nat} {rs : List ByteArray} {j : Nat} {ps : List PR} (h : L1 w wr T T2 A5 n c5 rs j ps) (zs : List ByteArray) : L2 w wr T T2 wr.heap.size ps zs 0 [] :=
  ⟨Low.of_tab h.tab, tab_of_row h.head (by decide) (Nat.le_refl _), h.bel, fun x => by simp, Nat.le_refl _, h.ne, h.tab.base_le⟩

theorem L2.step {w wr w2 : World} {T T2 B : Nat} {ps qs : List PR} {zs : List ByteArray} {j : Nat} (h : L2 w wr T T2 B ps zs j qs) {x : ByteArray} (hx : zs[j]? = some x)
    (ht : Tab w2 B T2 200 (put Cmp.cmpS x x qs)) (hf : Fr B T2 wr w2) : L2 w w2 T T2 B ps zs (j + 1) (put Cmp.cmpS x x qs) := by
  obtain ⟨h1, h2, h3, h4, h5, h6, h7⟩ := h
  obtain ⟨lT, hT⟩ := h2.head
  refine ⟨h1.keep hf hT (by omega), ht, h3.trans (hf.below h7 (Nat.le_of_lt h6) h1.tab.base_le), fun y => ?_, Nat.le_trans length_put_le (by omega), h6, h7⟩
  rw [names_put Cmp.ordS, take_mem hx, h4]
end Go.Proofs.Ytnijiimljpbgpaa.TS
