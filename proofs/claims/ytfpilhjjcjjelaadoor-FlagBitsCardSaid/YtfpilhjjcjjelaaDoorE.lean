/-
  Text: the names of the bits, then the words, in brackets. And append and Join at slices of texts, nil ones too.
-/
import Derived.Test.YtfpilhjjcjjelaaDoorD
import Derived.Test.YtfpilhjjcjjelaaDoorShelf
import Derived.Maps.AppendAt
import Derived.RegionTactic
import Derived.Lib.Join
namespace Go.Proofs.YtfpilhjjcjjelaaDoor.E
open Go.RowKit Go.Proofs.YtfpilhjjcjjelaaDoor.Kit Go.Proofs.YtfpilhjjcjjelaaDoor.Arg Go.Proofs.YtfpilhjjcjjelaaDoor.A Go.Proofs.YtfpilhjjcjjelaaDoor.B Go.Proofs.YtfpilhjjcjjelaaDoor.C Go.Proofs.YtfpilhjjcjjelaaDoor.D Go.Proofs.YtfpilhjjcjjelaaDoor.Few

/-- append of a slice of texts, nil or not, onto a row of the call's own. -/
theorem run_app {w : World} {base n m c : Nat} {v : Value} {xs : List Value} {A : Option Addr} {zs : List ByteArray} (ty : TypeId) (hown : w.ownsRow base 9 1 v n xs) (hz : StrsAt w A m zs)
    (hb : n + m ≤ 8796093022208) (hbase : base ≤ w.heap.size) :
    ∃ v' w', (Builtin.append_ #[22, 22] ty #[v, .slice A m c]).run Tryd.prog w = .ok v' w' ∧ w'.ownsRow base 9 1 v' (n + m) (xs ++ zs.map Value.string) ∧ w.grownBy w' v.ownBlock ∧
      (v'.ownBlock = v.ownBlock ∨ v'.ownBlock = some w.heap.size) := by
  obtain ⟨i0, hi, hz0, hz1, hz2⟩ := info_parts info9
  have hzl := hz.1
  by_cases hm : m = 0
  · subst hm
    have hn : zs = [] := List.eq_nil_of_length_eq_zero hzl
    subst hn
    cases A with
    | none =>
      refine ⟨v, w, ?_, by simpa using hown, World.grownBy.refl w _, .inl rfl⟩
      rcases hown.2 with ⟨rfl, rfl⟩ | ⟨g, cap, cur, rfl, _, _, hnc, _⟩
      · simp [Builtin.append_, run_underlying Tryd.underlying22, sizeOf, typeInfo, hi, Builtin.lenOf, Builtin.firstCells]
      · simp [Builtin.append_, run_underlying Tryd.underlying22, sizeOf, typeInfo, hi, Builtin.lenOf, Builtin.firstCells, hnc, storeCells]
    | some ad =>
      obtain ⟨v', w', hrun, h2, h3, _, h5⟩ := run_append_own_at (P := Tryd.prog) w base 22 ty 9 i0 (.string ⟨#[]⟩) 1 16 Tryd.underlying22 hi hz0 hz1 hz2 rfl (by decide) v n xs hown ad 0 c [] rfl (by simp) (by simp) (by unfold maxLen; omega) (by omega) hbase
      exact ⟨v', w', hrun, h2, h3, h5⟩
  · obtain ⟨ad, rfl, hlt, hc⟩ := hz.2 (by omega)
    obtain ⟨v', w', hrun, h2, h3, _, h5⟩ := run_append_own_at (P := Tryd.prog) w base 22 ty 9 i0 (.string ⟨#[]⟩) 1 16 Tryd.underlying22 hi hz0 hz1 hz2 rfl (by decide) v n xs hown ad m c (zs.map Value.string) (by simp [hzl])
      (fun j u hu => by
        rw [List.getElem?_map] at hu
        cases hj : zs[j]? with
        | none => rw [hj] at hu; cases hu
        | some z => rw [hj] at hu; cases hu; exact hc j z hj) (strs_oneCell zs) (by unfold maxLen; omega) (by omega) hbase
    exact ⟨v', w', hrun, h2, h3, h5⟩

theorem wp_app {w : World} {base n m c : Nat} {v : Value} {xs : List Value} {A : Option Addr} {zs : List ByteArray} {o : Oper} {a : Act} {K : Act → World → Prop} {Q : Exit → Act → World → Prop} (s x : Operand)
    (ho : o.op = .call { callee := .builtin .append, args := #[s, x], argTypes := #[22, 22] }) (hs : a.eval s = v) (hx : a.eval x = .slice A m c) (hown : w.ownsRow base 9 1 v n xs) (hz : StrsAt w A m zs)
    (hb : n + m ≤ 8796093022208) (hbase : base ≤ w.heap.size)
    (h : ∀ v' w', w'.ownsRow base 9 1 v' (n + m) (xs ++ zs.map Value.string) → w.grownBy w' v.ownBlock → (v'.ownBlock = v.ownBlock ∨ v'.ownBlock = some w.heap.size) → K (a.put o.dst v') w') : o.wp Tryd.prog a w K Q := by
  obtain ⟨v', w', hrun, h2, h3, h4⟩ := run_app (c := c) o.type hown hz hb hbase
  unfold Oper.wp execOp
  simp only [ho, resolve, invoke, builtin, Sem.run_bind, Sem.run_pure, Result.andThen_ok, List.map_toArray, List.map_cons, List.map_nil, hs, hx, hrun]
  exact h v' w' h2 h3 h4
theorem wpList_app {w : World} {base n m c : Nat} {v : Value} {xs : List Value} {A : Option Addr} {zs : List ByteArray} {ops : Array Oper} {rest : List Oper} {o : Oper} {a : Act} {Q : Exit → Act → World → Prop} (hgd : o.guard = none) (s x : Operand)
    (ho : o.op = .call { callee := .builtin .append, args := #[s, x], argTypes := #[22, 22] }) (hs : a.eval s = v) (hx : a.eval x = .slice A m c) (hown : w.ownsRow base 9 1 v n xs) (hz : StrsAt w A m zs)
    (hb : n + m ≤ 8796093022208) (hbase : base ≤ w.heap.size)
    (h : ∀ v' w', w'.ownsRow base 9 1 v' (n + m) (xs ++ zs.map Value.string) → w.grownBy w' v.ownBlock → (v'.ownBlock = v.ownBlock ∨ v'.ownBlock = some w.heap.size) → wpList Tryd.prog ops Q rest (a.put o.dst v') w') : wpList Tryd.prog ops Q (o :: rest) a w :=
  wpList_plain hgd fun _ hK => wp_app s x ho hs hx hown hz hb hbase fun v' w' h2 h3 h4 => hK _ _ (h v' w' h2 h3 h4)
theorem step_app {w : World} {base n m c : Nat} {v : Value} {xs : List Value} {A : Option Addr} {zs : List ByteArray} {ops : Array Oper} {o : Oper} {a : Act} {K : Act → World → Prop} {Q : Exit → Act → World → Prop} {E : Prop} (hgd : o.guard = none) (s x : Operand)
    (ho : o.op = .call { callee := .builtin .append, args := #[s, x], argTypes := #[22, 22] }) (hs : a.eval s = v) (hx : a.eval x = .slice A m c) (hown : w.ownsRow base 9 1 v n xs) (hz : StrsAt w A m zs)
    (hb : n + m ≤ 8796093022208) (hbase : base ≤ w.heap.size)
    (h : ∀ v' w', w'.ownsRow base 9 1 v' (n + m) (xs ++ zs.map Value.string) → w.grownBy w' v.ownBlock → (v'.ownBlock = v.ownBlock ∨ v'.ownBlock = some w.heap.size) → K (a.put o.dst v') w') :
    if Region.wanted o (yielded ops a.tmps) = true then Oper.wp Tryd.prog o a w K Q else E := by
  have hw : Region.wanted o (yielded ops a.tmps) = true := by simp [Region.wanted, hgd]
  rw [if_pos hw]
  exact wp_app s x ho hs hx hown hz hb hbase h

theorem own_form {w : World} {base n : Nat} {v : Value} {xs : List Value} (h : w.ownsRow base 9 1 v n xs) (hn : 0 < n) : ∃ g cap, v = .slice (some ⟨g, 0, none⟩) n cap ∧ base ≤ g ∧ g < w.heap.size := by
  rcases h.2 with ⟨rfl, rfl⟩ | ⟨g, cap, cur, rfl, hb, hg, _⟩
  · omega
  · exact ⟨g, cap, rfl, hb, (Array.getElem?_eq_some_iff.1 hg).1⟩
/-- A row of the call's own, handed on. -/
theorem strsAt_own {w : World} {base n cp : Nat} {A : Option Addr} {zs : List ByteArray} (h : w.ownsRow base 9 1 (.slice A n cp) n (zs.map Value.string)) : StrsAt w A n zs := by
  have hl := h.1
  refine ⟨by simpa using hl, fun hn => ?_⟩
  obtain ⟨g, cap, hv, _, hlt⟩ := own_form h hn
  have hA : A = some ⟨g, 0, none⟩ := by injection hv
  subst hA
  refine ⟨_, rfl, hlt, fun j z hz => h.cells (g := g) rfl j _ ?_⟩
  rw [List.getElem?_map, hz]; rfl
theorem own_slice {w : World} {base n : Nat} {v : Value} {xs : List Value} (h : w.ownsRow base 9 1 v n xs) : ∃ A cp, v = .slice A n cp ∧ n ≤ cp := by
  rcases h.2 with ⟨rfl, rfl⟩ | ⟨g, cap, cur, rfl, _, _, hnc, _⟩
  · exact ⟨_, _, rfl, Nat.le_refl _⟩
  · exact ⟨_, _, rfl, hnc⟩

def jn (zs : List ByteArray) : List UInt8 := Lib.join (zs.map (·.data.toList)) [32]
theorem lens_letters (zs : List ByteArray) : Lib.lens (zs.map (·.data.toList)) = letters zs := by
  unfold Lib.lens letters
  rw [List.map_map]
  congr 1
theorem jn_len (zs : List ByteArray) : (jn zs).length ≤ letters zs + zs.length := by
  unfold jn
  cases zs with
  | nil => simp [Lib.join_nil]
  | cons x r =>
    have h := Lib.join_length x.data.toList (r.map (·.data.toList)) [32]
    have h2 := lens_letters (x :: r)
    rw [List.map_cons] at h2 ⊢
    rw [h, h2]
    simp; omega
/-- strings.Join with a blank between. -/
theorem join_any {w : World} {base n : Nat} {v : Value} {zs : List ByteArray} (h : w.ownsRow base 9 1 v n (zs.map Value.string)) (hl : letters zs + zs.length ≤ 140737488355328) :
    Calls Tryd.prog 16 #[v, .string ⟨#[32]⟩] w fun e w' => e = .returned (.string ⟨(jn zs).toArray⟩) ∧ Below w.heap.size w w' := by
  obtain ⟨A, cp, rfl, hcp⟩ := own_slice h
  have hs := strsAt_own h
  obtain rfl : zs.length = n := hs.1
  by_cases h0 : zs.length = 0
  · have hn : zs = [] := List.eq_nil_of_length_eq_zero h0
    subst hn
    exact (Tryd.strings_Join_none A cp _ w).mono fun e w' ⟨he, hw⟩ => ⟨he, by rw [hw]; exact Below.refl _ _⟩
  · obtain ⟨g, cap, hv, _, hlt⟩ := own_form h (by omega)
    have hA : A = some ⟨g, 0, none⟩ := by injection hv
    subst hA
    have hj := jn_len zs
    refine (Tryd.strings_Join g 0 cp zs _ w (fun j x hx => ?_) hlt (by omega) hcp (by unfold jn at hj; simpa using Nat.le_trans hj hl)).mono fun e w' ⟨he, hb⟩ => ⟨he, hb⟩
    have := h.cells (g := g) rfl j (.string x) (by rw [List.getElem?_map, hx]; rfl)
    rw [← this]
    congr 1
    unfold Addr.add
    split <;> simp_all
end Go.Proofs.YtfpilhjjcjjelaaDoor.E
