/-
  Numbers and texts one behind the other: read as they were; cut short.
-/
import Derived.Test.YtdgcihgohkgecaaDoorPkG
namespace Go.Proofs.YtdgcihgohkgecaaDoor.PkK
open Go.RowKit Go.Proofs.YtdgcihgohkgecaaDoor.PkKit Go.Proofs.YtdgcihgohkgecaaDoor.PkA Go.Proofs.YtdgcihgohkgecaaDoor.PkB Go.Proofs.YtdgcihgohkgecaaDoor.PkD Go.Proofs.YtdgcihgohkgecaaDoor.PkE Go.Proofs.YtdgcihgohkgecaaDoor.PkF Go.Proofs.YtdgcihgohkgecaaDoor.PkG

def encN : List Nat → List UInt8
  | [] => []
  | y :: r => Lib.uvarint y ++ encN r
def encS : List ByteArray → List UInt8
  | [] => []
  | s :: r => tx s ++ encS r
set_option maxRecDepth 100000 in
theorem encN_snoc : ∀ (l : List Nat) (y : Nat), encN (l ++ [y]) = encN l ++ Lib.uvarint y
  | [], y => by simp [encN]
  | x :: r, y => by simp [encN, encN_snoc r y]
set_option maxRecDepth 100000 in
theorem encS_snoc : ∀ (l : List ByteArray) (y : ByteArray), encS (l ++ [y]) = encS l ++ tx y
  | [], y => by simp [encS]
  | x :: r, y => by simp [encS, encS_snoc r y]
set_option maxRecDepth 100000 in
theorem encN_len : ∀ {l : List Nat}, (∀ y ∈ l, y ≤ 1099511627776) → (encN l).length ≤ 6 * l.length
  | [], _ => by simp [encN]
  | y :: r, h => by
    have h1 := uv_len (h y (by simp))
    have h2 := encN_len (l := r) (fun z hz => h z (List.mem_cons_of_mem _ hz))
    simp only [encN, List.length_append, List.length_cons]
    omega
set_option maxRecDepth 100000 in
theorem tx_len {s : ByteArray} (h : s.size ≤ 300) : (tx s).length ≤ 306 := by
  have h1 := uv_len (m := s.size) (by omega)
  have h2 : s.data.toList.length = s.size := by rw [Array.length_toList]; rfl
  unfold tx
  rw [List.length_append]
  omega
set_option maxRecDepth 100000 in
theorem encS_len : ∀ {l : List ByteArray}, (∀ s ∈ l, s.size ≤ 300) → (encS l).length ≤ 306 * l.length
  | [], _ => by simp [encS]
  | s :: r, h => by
    have h1 := tx_len (h s (by simp))
    have h2 := encS_len (l := r) (fun z hz => h z (List.mem_cons_of_mem _ hz))
    simp only [encS, List.length_append, List.length_cons]
    omega
set_option maxRecDepth 100000 in
theorem encN_drop {l : List Nat} {k y : Nat} (h : l[k]? = some y) : encN (l.drop k) = Lib.uvarint y ++ encN (l.drop (k + 1)) := by
  obtain ⟨hl, e⟩ := List.getElem?_eq_some_iff.1 h
  rw [List.drop_eq_getElem_cons hl, e]; rfl
set_option maxRecDepth 100000 in
theorem encS_drop {l : List ByteArray} {k : Nat} {s : ByteArray} (h : l[k]? = some s) : encS (l.drop k) = tx s ++ encS (l.drop (k + 1)) := by
  obtain ⟨hl, e⟩ := List.getElem?_eq_some_iff.1 h
  rw [List.drop_eq_getElem_cons hl, e]; rfl
set_option maxRecDepth 100000 in
theorem take_snoc {α : Type} {zs : List α} {j : Nat} {x : α} (h : zs[j]? = some x) : zs.take (j + 1) = zs.take j ++ [x] := by
  obtain ⟨hl, e⟩ := List.getElem?_eq_some_iff.1 h
  rw [List.take_succ_eq_append_getElem hl, e]

set_option maxRecDepth 100000 in
theorem tz_tx {s : ByteArray} (h : s.size ≤ 300) (rest : List UInt8) : tz (tx s ++ rest) 300 = (s.data.toList, rest, 0) := by
  have hl : s.data.toList.length = s.size := by rw [Array.length_toList]; rfl
  have hp : ps (tx s ++ rest) = (s.size, (Lib.uvarint s.size).length, 0) := by
    unfold tx
    rw [List.append_assoc]
    exact ps_uv (by omega) _
  unfold tz
  rw [hp]
  have h1 : ¬ ((300 : Int) < ((s.size : Nat) : Int)) := by omega
  have h2 : ¬ (tx s ++ rest).length < (Lib.uvarint s.size).length + s.size := by
    unfold tx
    rw [List.length_append, List.length_append]
    omega
  simp only [ne_eq, not_true_eq_false, if_false, if_neg h1, if_neg h2]
  unfold tx
  rw [List.append_assoc, List.drop_left' rfl, ← hl, List.take_left' rfl, ← List.append_assoc, List.drop_left' (by rw [List.length_append])]
set_option maxRecDepth 100000 in
theorem tz_cut {s : ByteArray} (h : s.size ≤ 300) (rest : List UInt8) {q : Nat} (hq : q < (tx s ++ rest).length) :
    (∃ l, tz ((tx s ++ rest).take q) 300 = ([], l, 2)) ∨ ∃ q', q' < rest.length ∧ tz ((tx s ++ rest).take q) 300 = (s.data.toList, rest.take q', 0) := by
  have hl : s.data.toList.length = s.size := by rw [Array.length_toList]; rfl
  have htl : (tx s).length = (Lib.uvarint s.size).length + s.size := by unfold tx; rw [List.length_append, hl]
  by_cases h1 : q < (Lib.uvarint s.size).length
  · refine .inl ⟨(tx s ++ rest).take q, ?_⟩
    have hp : ps ((tx s ++ rest).take q) = (0, 0, 2) := by
      unfold tx
      rw [List.append_assoc, List.take_append_of_le_length (by omega)]
      exact ps_short (by omega) h1
    unfold tz
    rw [hp]
    simp
  · by_cases h2 : q < (tx s).length
    · refine .inl ⟨(tx s ++ rest).take q, ?_⟩
      have hp : ps ((tx s ++ rest).take q) = (s.size, (Lib.uvarint s.size).length, 0) := by
        unfold tx
        rw [List.append_assoc, List.take_append, List.take_of_length_le (by omega)]
        exact ps_uv (by omega) _
      unfold tz
      rw [hp]
      have h3 : ¬ ((300 : Int) < ((s.size : Nat) : Int)) := by omega
      have h4 : ((tx s ++ rest).take q).length < (Lib.uvarint s.size).length + s.size := by
        rw [List.length_take]
        omega
      simp only [ne_eq, not_true_eq_false, if_false, if_neg h3, if_pos h4]
    · rw [List.length_append] at hq
      refine .inr ⟨q - (tx s).length, by omega, ?_⟩
      rw [List.take_append, List.take_of_length_le (show (tx s).length ≤ q by omega)]
      exact tz_tx h _

/-- A reader of bytes that were cut short: what is left is a part of what was to come, or it has met the end. -/
def Cs (w : World) (T : Nat) (rest : List UInt8) : Prop := ∃ l e, RD w T l e ∧ ((e = 0 ∧ ∃ q, q < rest.length ∧ l = rest.take q) ∨ e = 2)
def CsP (w : World) (T : Nat) (rest : List UInt8) (e : Ending) (w' : World) : Prop := ∃ v, e = .returned v ∧ Cs w' T rest ∧ w.grownBy w' (some T)
set_option maxRecDepth 100000 in
theorem cs_num {w : World} {T y : Nat} {rest : List UInt8} (h : Cs w T (Lib.uvarint y ++ rest)) (hy : y ≤ 1099511627776) : Calls Tryd.prog 112 #[ptr T] w (CsP w T rest) := by
  obtain ⟨l, e, hr, ⟨rfl, q, hq, rfl⟩ | rfl⟩ := h
  · refine (num_any hr).mono ?_
    rintro e w' ⟨rfl, h1, h2⟩
    refine ⟨_, rfl, ?_, h2⟩
    by_cases hql : q < (Lib.uvarint y).length
    · have hp : ps ((Lib.uvarint y ++ rest).take q) = (0, 0, 2) := by
        rw [List.take_append_of_le_length (by omega)]
        exact ps_short hy hql
      rw [hp] at h1
      exact ⟨_, _, h1, .inr rfl⟩
    · rw [List.length_append] at hq
      have ht : (Lib.uvarint y ++ rest).take q = Lib.uvarint y ++ rest.take (q - (Lib.uvarint y).length) := by
        rw [List.take_append, List.take_of_length_le (by omega)]
      rw [ht, ps_uv hy] at h1
      exact ⟨_, _, h1, .inl ⟨rfl, q - (Lib.uvarint y).length, by omega, List.drop_left' rfl⟩⟩
  · refine (num_bad hr (by decide)).mono ?_
    rintro e w' ⟨rfl, rfl⟩
    exact ⟨_, rfl, ⟨l, 2, hr, .inr rfl⟩, World.grownBy.refl _ _⟩
set_option maxRecDepth 100000 in
theorem cs_text {w : World} {T : Nat} {s : ByteArray} {rest : List UInt8} (h : Cs w T (tx s ++ rest)) (hs : s.size ≤ 300) : Calls Tryd.prog 101 #[ptr T, .int .i64 300] w (CsP w T rest) := by
  obtain ⟨l, e, hr, ⟨rfl, q, hq, rfl⟩ | rfl⟩ := h
  · refine (text_any hr 300).mono ?_
    rintro e w' ⟨rfl, h1, h2⟩
    refine ⟨_, rfl, ?_, h2⟩
    rcases tz_cut hs rest hq with ⟨l', e⟩ | ⟨q', hq', e⟩
    · rw [e] at h1
      exact ⟨_, _, h1, .inr rfl⟩
    · rw [e] at h1
      exact ⟨_, _, h1, .inl ⟨rfl, q', hq', rfl⟩⟩
  · refine (text_bad hr (by decide) 300).mono ?_
    rintro e w' ⟨rfl, rfl⟩
    exact ⟨_, rfl, ⟨l, 2, hr, .inr rfl⟩, World.grownBy.refl _ _⟩
set_option maxRecDepth 100000 in
theorem cs_end {w : World} {T : Nat} (h : Cs w T []) : ∃ l, RD w T l 2 := by
  obtain ⟨l, e, hr, ⟨rfl, q, hq, _⟩ | rfl⟩ := h
  · simp at hq
  · exact ⟨l, hr⟩

/-! Rows of ints. -/
def ints (zs : List Nat) : List Value := zs.map fun z => Value.int .i64 (z : Nat)
set_option maxRecDepth 100000 in
theorem ints_snoc (zs : List Nat) (x : Nat) : ints (zs ++ [x]) = ints zs ++ [.int .i64 (x : Nat)] := by simp [ints]
set_option maxRecDepth 100000 in
theorem info3 : (Tryd.prog.info? 3).map (fun i => (i.zero, i.size, i.bytes)) = some (some (.int .i64 0), 1, 8) := by kernel_rfl
set_option maxRecDepth 100000 in
theorem run_one {w : World} {base n : Nat} {v : Value} {xs : List Value} {y : Nat} (ty : TypeId) (hown : w.ownsRow base 3 1 v n xs) (hb : n ≤ 1000000) (hbase : base ≤ w.heap.size) :
    ∃ v' w', (Builtin.append_ #[26, 26] ty #[v, .slice (some ⟨w.heap.size, 0, none⟩) 1 1]).run Tryd.prog (w.alloc (.cells #[.int .i64 (y : Nat)] 3)) = .ok v' w' ∧ w'.ownsRow base 3 1 v' (n + 1) (xs ++ [.int .i64 (y : Nat)]) ∧ (w.alloc (.cells #[.int .i64 (y : Nat)] 3)).grownBy w' v.ownBlock := by
  obtain ⟨i0, hi, hz0, hz1, hz2⟩ := info_parts info3
  obtain ⟨v', w', hrun, h2, h3, _⟩ := run_append_own_at (P := Tryd.prog) (w.alloc (.cells #[.int .i64 (y : Nat)] 3)) base 26 ty 3 i0 (.int .i64 0) 1 8 Tryd.underlying26 hi hz0 hz1 hz2 rfl (by decide) v n xs (hown.alloc _) ⟨w.heap.size, 0, none⟩ 1 1 [.int .i64 (y : Nat)] rfl
    (fun j u hj => by
      match j, hj with
      | 0, hj => simp at hj; subst hj; simp [Addr.add]) (fun u hu => by simp at hu; subst hu; rfl) (by unfold maxLen; omega) (by omega) (by simp; omega)
  exact ⟨v', w', hrun, h2, h3⟩
set_option maxRecDepth 100000 in
theorem wpList_one {w : World} {base n y : Nat} {v : Value} {xs : List Value} {ops : Array Oper} {rest : List Oper} {o : Oper} {a : Act} {Q : Exit → Act → World → Prop} (hgd : o.guard = none) (s x : Operand)
    (ho : o.op = .call { callee := .builtin .append, args := #[s, x], argTypes := #[26, 26] }) (hs : a.eval s = v) (hx : a.eval x = .slice (some ⟨w.heap.size, 0, none⟩) 1 1) (hown : w.ownsRow base 3 1 v n xs)
    (hb : n ≤ 1000000) (hbase : base ≤ w.heap.size)
    (h : ∀ v' w', w'.ownsRow base 3 1 v' (n + 1) (xs ++ [.int .i64 (y : Nat)]) → (w.alloc (.cells #[.int .i64 (y : Nat)] 3)).grownBy w' v.ownBlock → wpList Tryd.prog ops Q rest (a.put o.dst v') w') : wpList Tryd.prog ops Q (o :: rest) a (w.alloc (.cells #[.int .i64 (y : Nat)] 3)) := by
  refine wpList_plain hgd fun K hK => ?_
  obtain ⟨v', w', hrun, h2, h3⟩ := run_one (y := y) o.type hown hb hbase
  unfold Oper.wp execOp
  simp only [ho, resolve, invoke, builtin, Sem.run_bind, Sem.run_pure, Result.andThen_ok, List.map_toArray, List.map_cons, List.map_nil, hs, hx, hrun]
  exact hK _ _ (h v' w' h2 h3)
set_option maxRecDepth 100000 in
theorem own_mono {w : World} {base base' e n : Nat} {v : Value} {xs : List Value} (h : w.ownsRow base e 1 v n xs) (hb : base' ≤ base) : w.ownsRow base' e 1 v n xs := by
  refine ⟨h.1, ?_⟩
  rcases h.2 with hn | ⟨g, cap, cur, hv, hbg, r⟩
  · exact .inl hn
  · exact .inr ⟨g, cap, cur, hv, by omega, r⟩
set_option maxRecDepth 100000 in
theorem OB.rebase {B : Nat} {w0 w w' : World} {n : Nat} {v : Value} {l : List UInt8} (h : OB w.heap.size w w' n v l) (hb : Below B w0 w) (hB : B ≤ w0.heap.size) : OB B w0 w' n v l :=
  ⟨own_mono h.own (Nat.le_trans hB hb.size), hb.trans (h.bel.mono (Nat.le_trans hB hb.size)), hB⟩
/-- Cells of ints that are known. -/
def WantAt (w : World) (B : Nat) (A : Option Addr) (n : Nat) (zs : List Nat) : Prop :=
  zs.length = n ∧ (0 < n → ∃ ad, A = some ad ∧ ad.block < B ∧ ∀ j z, zs[j]? = some z → w.cell? (ad.add j) = some (.int .i64 (z : Nat)))
set_option maxRecDepth 100000 in
theorem WantAt.at_ {w : World} {B n : Nat} {A : Option Addr} {zs : List Nat} (h : WantAt w B A n zs) {j : Nat} (hj : j < n) : ∃ ad z, A = some ad ∧ zs[j]? = some z ∧ w.cell? (ad.add j) = some (.int .i64 (z : Nat)) := by
  obtain ⟨hl, hc⟩ := h
  obtain ⟨ad, rfl, _, hcell⟩ := hc (by omega)
  exact ⟨ad, zs[j]'(by omega), rfl, List.getElem?_eq_getElem (by omega), hcell j _ (List.getElem?_eq_getElem (by omega))⟩
set_option maxRecDepth 100000 in
theorem WantAt.below {w w' : World} {B B' n : Nat} {A : Option Addr} {zs : List Nat} (h : WantAt w B A n zs) (hb : Below B' w w') (hB : B ≤ B') : WantAt w' B A n zs :=
  ⟨h.1, fun hn => by
    obtain ⟨ad, e, hlt, hc⟩ := h.2 hn
    exact ⟨ad, e, hlt, fun j z hj => (hb.cell (by rw [add_block]; omega)).trans (hc j z hj)⟩⟩
set_option maxRecDepth 100000 in
theorem WantAt.grown {w w' : World} {B n T : Nat} {A : Option Addr} {zs : List Nat} (h : WantAt w B A n zs) (hg : w.grownBy w' (some T)) (hT : B ≤ T) : WantAt w' B A n zs :=
  ⟨h.1, fun hn => by
    obtain ⟨ad, e, hlt, hc⟩ := h.2 hn
    exact ⟨ad, e, hlt, fun j z hj => hg.cell (hc j z hj) (fun e => by injection e with e; rw [add_block] at e; omega)⟩⟩
set_option maxRecDepth 100000 in
theorem wantAt_own {w : World} {base n cp : Nat} {A : Option Addr} {zs : List Nat} (h : w.ownsRow base 3 1 (.slice A n cp) n (ints zs)) : WantAt w w.heap.size A n zs := by
  have hl := h.1
  have hlt := h.lt
  have hcs := fun g hg => h.cells (g := g) hg
  rcases h.2 with ⟨hv, rfl⟩ | ⟨g, cap, cur, hv, hb, hg, hn, hm, hs, ht⟩
  · exact ⟨by simpa [ints] using hl, fun h => absurd h (Nat.lt_irrefl 0)⟩
  · injection hv with hv _ _
    subst hv
    refine ⟨by simpa [ints] using hl, fun _ => ⟨_, rfl, (hlt g rfl).2, fun j z hj => hcs g rfl j _ ?_⟩⟩
    unfold ints; rw [List.getElem?_map, hj]; rfl
end Go.Proofs.YtdgcihgohkgecaaDoor.PkK
