/-
  A map of texts to ints that the call makes, as a list of pairs; the greatest costs.
-/
import Derived.Test.YtolkghdeppoanaaSfL
import Derived.Maps.Own
import Derived.Maps.OwnOps
import Derived.Maps.Views
import Derived.Maps.RangeWalk
import Derived.StringKeys
set_option linter.unusedVariables false
set_option linter.unusedSimpArgs false
namespace Go.Proofs.Ytolkghdeppoanaa.SfG
open Go.RowKit Go.Maps Go.Proofs.Ytolkghdeppoanaa.BxD Go.Proofs.Ytolkghdeppoanaa.BxKit Go.Proofs.Ytolkghdeppoanaa.RkO Go.Proofs.Ytolkghdeppoanaa.RkP Go.Proofs.Ytolkghdeppoanaa.RkC Go.Proofs.Ytolkghdeppoanaa.RkD Go.Proofs.Ytolkghdeppoanaa.RkR Go.Proofs.Ytolkghdeppoanaa.RkK Go.Proofs.Ytolkghdeppoanaa.RkM Go.Proofs.Ytolkghdeppoanaa.RkN Go.Proofs.Ytolkghdeppoanaa.SfC Go.Proofs.Ytolkghdeppoanaa.SfD Go.Proofs.Ytolkghdeppoanaa.SfK

abbrev Gr := List (ByteArray × Nat)
def kl (n : ByteArray) : Lit := .string n.data.toList
def en (p : ByteArray × Nat) : Lit × DataW Unit := (kl p.1, .lit (.int .i64 (p.2 : Int)))
theorem kl_inj {a b : ByteArray} (h : kl a = kl b) : a = b := by
  injection h with h
  cases a; cases b
  congr 1
  exact Array.ext' h
theorem kl_key (n : ByteArray) : WideAt.IsKeyLit (kl n) := trivial
theorem same_kl (a b : ByteArray) : (kl a).sameKey (kl b) = decide (a = b) := by
  cases h : (kl a).sameKey (kl b) with
  | true => exact (decide_eq_true (kl_inj (WideAt.sameKey_eq h))).symm
  | false => exact (decide_eq_false fun e => by rw [e, WideAt.sameKey_self (kl_key b)] at h; cases h).symm
/-- No name twice. -/
def Nd (G : Gr) : Prop := (G.map (·.1)).Nodup
def val (G : Gr) (n : ByteArray) : Nat := match G.find? (fun p => decide (p.1 = n)) with
  | some p => p.2
  | none => 0
theorem mxu_keys (n : ByteArray) (c : Nat) : ∀ (G : Gr) (x : ByteArray), x ∈ (mxu n c G).map (·.1) ↔ x = n ∨ x ∈ G.map (·.1)
  | [], x => by simp [mxu]
  | p :: r, x => by
    unfold mxu
    split
    · rename_i h
      simp [h]
    · have := mxu_keys n c r x
      simp only [List.map_cons, List.mem_cons, this]
      constructor
      · rintro (h | h | h)
        · exact .inr (.inl h)
        · exact .inl h
        · exact .inr (.inr h)
      · rintro (h | h | h)
        · exact .inr (.inl h)
        · exact .inl h
        · exact .inr (.inr h)
theorem Nd.mxu {n : ByteArray} {c : Nat} : ∀ {G : Gr}, Nd G → Nd (mxu n c G)
  | [], _ => by simp [Nd, SfD.mxu]
  | p :: r, h => by
    unfold Nd at h
    rw [List.map_cons, List.nodup_cons] at h
    unfold Nd SfD.mxu
    split
    · rename_i e
      rw [List.map_cons, List.nodup_cons, ← e]
      exact h
    · rename_i e
      rw [List.map_cons, List.nodup_cons]
      refine ⟨fun hm => ?_, Nd.mxu (G := r) h.2⟩
      rcases (mxu_keys n c r p.1).1 hm with h1 | h1
      · exact e h1
      · exact h.1 h1
theorem ins_perm (x : Lit × DataW Unit) : ∀ l : List (Lit × DataW Unit), (DataW.insert x l).Perm (x :: l)
  | [] => List.Perm.refl _
  | y :: r => by
    unfold DataW.insert
    split
    · exact List.Perm.refl _
    · exact ((ins_perm x r).cons y).trans (List.Perm.swap x y r)
theorem val_cons_ne {p : ByteArray × Nat} {r : Gr} {n : ByteArray} (h : p.1 ≠ n) : val (p :: r) n = val r n := by
  unfold val
  rw [List.find?_cons_of_neg (by simpa using h)]
theorem val_cons_eq {p : ByteArray × Nat} {r : Gr} {n : ByteArray} (h : p.1 = n) : val (p :: r) n = p.2 := by
  unfold val
  rw [List.find?_cons_of_pos (by simpa using h)]
theorem val_none {G : Gr} {n : ByteArray} (h : n ∉ G.map (·.1)) : val G n = 0 := by
  unfold val
  rw [List.find?_eq_none.2 fun p hp => by simpa using fun e => h (List.mem_map.2 ⟨p, hp, e⟩)]
/-- A put, entry by entry. -/
theorem put_perm {n : ByteArray} {c : Nat} : ∀ {G : Gr}, Nd G → (en (n, max (val G n) c) :: (G.map en).filter (fun p => !p.1.sameKey (kl n))).Perm ((mxu n c G).map en)
  | [], _ => by simp [mxu, val]
  | p :: r, h => by
    have h0 := h
    unfold Nd at h
    rw [List.map_cons, List.nodup_cons] at h
    by_cases e : p.1 = n
    · have hf : (r.map en).filter (fun q => !q.1.sameKey (kl n)) = r.map en := by
        refine List.filter_eq_self.2 fun q hq => ?_
        obtain ⟨q', hq', rfl⟩ := List.mem_map.1 hq
        have hne : q'.1 ≠ n := fun e2 => h.1 (by rw [e, ← e2]; exact List.mem_map.2 ⟨q', hq', rfl⟩)
        show (!(kl q'.1).sameKey (kl n)) = true
        rw [same_kl, decide_eq_false hne]; rfl
      rw [val_cons_eq e, List.map_cons, List.filter_cons_of_neg (by show ¬ (!(kl p.1).sameKey (kl n)) = true; rw [same_kl, decide_eq_true e]; decide), hf]
      unfold mxu
      rw [if_pos e]
      exact List.Perm.refl _
    · rw [val_cons_ne e, List.map_cons, List.filter_cons_of_pos (by show (!(kl p.1).sameKey (kl n)) = true; rw [same_kl, decide_eq_false e]; rfl)]
      unfold mxu
      rw [if_neg e, List.map_cons]
      exact (List.Perm.swap _ _ _).trans ((put_perm (G := r) h.2).cons _)
/-- The block B is a map that reads as the pairs of G. -/
def MG (w : World) (B m : Nat) (G : Gr) : Prop :=
  ∃ (D : DataW Unit) (es : List (Lit × DataW Unit)), w.ownsMap Try.prog 9 (plainElem Try.prog 3) B m D ∧ D = .map es ∧ es.Perm (G.map en) ∧ Nd G
theorem law : Keyed Try.prog 9 := string_keyed Try.underlying9
theorem zeroE (w : World) : (zeroValue 3).run Try.prog w = .ok (.int .i64 0) w := by kernel_rfl
theorem keyS {s : ByteArray} (h : s.size ≤ maxLen) : keyOf Try.prog 9 (.string s) = some (kl s) := by
  exact WideMaps.keyOf_string_mk Try.underlying9 h
section
variable {w w' : World} {B m : Nat} {G : Gr}
theorem MG.made (w : World) : MG (w.alloc (.map #[] 0)) w.heap.size 0 [] := ⟨_, [], World.ownsMap_made _ _ _ _, rfl, List.Perm.refl _, List.Pairwise.nil⟩
theorem MG.lt (h : MG w B m G) : B < w.heap.size := by obtain ⟨D, es, h, _⟩ := h; exact h.lt
theorem MG.kept (h : MG w B m G) {row : Option Nat} (hg : w.grownBy w' row) (hne : some B ≠ row) : MG w' B m G := by
  obtain ⟨D, es, h, h2⟩ := h
  exact ⟨D, es, h.kept hg hne, h2⟩
theorem MG.go (h : MG w B m G) (hb : Below w.heap.size w w') : MG w' B m G := h.kept (RkO.grown_below hb (row := none)) (by simp)
theorem apart {es : List (Lit × DataW Unit)} (hp : es.Perm (G.map en)) (hn : Nd G) : es.Pairwise (fun p q => p.1 ≠ q.1) := by
  refine (hp.pairwise_iff (fun {a b} h => Ne.symm h)).2 ?_
  rw [List.pairwise_map]
  unfold Nd at hn
  rw [List.nodup_iff_pairwise_ne, List.pairwise_map] at hn
  exact hn.imp fun h e => h (kl_inj e)
theorem at_mem {es : List (Lit × DataW Unit)} (hp : es.Perm (G.map en)) (hn : Nd G) {p : ByteArray × Nat} (h : p ∈ G) (z : DataW Unit) : (DataW.map es).atKey (kl p.1) z = .lit (.int .i64 (p.2 : Nat)) :=
  WideAt.atKey_mem _ (kl_key p.1) (apart hp hn) (hp.mem_iff.2 (List.mem_map.2 ⟨p, h, rfl⟩))
theorem at_no {es : List (Lit × DataW Unit)} (hp : es.Perm (G.map en)) {n : ByteArray} (h : n ∉ G.map (·.1)) (z : DataW Unit) : (DataW.map es).atKey (kl n) z = z := by
  unfold DataW.atKey
  have : es.find? (fun p => p.1.sameKey (kl n)) = none := by
    refine List.find?_eq_none.2 fun q hq => ?_
    obtain ⟨p, hp', rfl⟩ := List.mem_map.1 (hp.mem_iff.1 hq)
    show ¬ (kl p.1).sameKey (kl n) = true
    rw [same_kl]
    exact fun e => h (List.mem_map.2 ⟨p, hp', of_decide_eq_true e⟩)
  simp only [this]
theorem val_mem (hn : Nd G) {p : ByteArray × Nat} (h : p ∈ G) : val G p.1 = p.2 := by
  unfold val
  cases hf : G.find? (fun q => decide (q.1 = p.1)) with
  | none => exact absurd (decide_eq_true rfl) (List.find?_eq_none.1 hf p h)
  | some q =>
    have hm := List.mem_of_find?_eq_some hf
    have he : q.1 = p.1 := by simpa using List.find?_some hf
    have : q = p := by
      unfold Nd at hn
      rw [List.nodup_iff_pairwise_ne, List.pairwise_map] at hn
      refine Classical.byContradiction fun hne => ?_
      have hrel : ∀ {l : Gr}, l.Pairwise (fun a b => a.1 ≠ b.1) → ∀ a ∈ l, ∀ b ∈ l, a.1 = b.1 → a = b := by
        intro l hl
        induction hl with
        | nil => intro a ha; simp at ha
        | cons hx _ ih =>
          intro a ha b hb e
          rcases List.mem_cons.1 ha with h1 | h1
          · rcases List.mem_cons.1 hb with h2 | h2
            · rw [h1, h2]
            · exact absurd e (by rw [h1]; exact hx b h2)
          · rcases List.mem_cons.1 hb with h2 | h2
            · exact absurd e.symm (by rw [h2]; exact hx a h1)
            · exact ih a h1 b h2 e
      exact hne (hrel hn q hm p h he)
    rw [this]
theorem at_val {es : List (Lit × DataW Unit)} (hp : es.Perm (G.map en)) (hn : Nd G) (n : ByteArray) : (DataW.map es).atKey (kl n) (.lit (.int .i64 0)) = .lit (.int .i64 (val G n : Nat)) := by
  by_cases h : n ∈ G.map (·.1)
  · obtain ⟨p, hp', rfl⟩ := List.mem_map.1 h
    rw [at_mem hp hn hp', val_mem hn hp']
  · rw [at_no hp h, val_none h]; rfl
set_option maxRecDepth 100000 in
theorem MG.look (h : MG w B m G) {n : ByteArray} (hn : n.size ≤ maxLen) : (Instr.lookup 103 (.map (some B)) (.string n) false).run Try.prog w = .ok (.int .i64 (val G n : Nat)) w := by
  obtain ⟨D, es, h, rfl, hp, hnd⟩ := h
  obtain ⟨c, hrun, hat, _⟩ := h.lookup_int law Try.underlying103 Try.underlying3 (zeroE w) (keyS hn)
  rw [at_val hp hnd n] at hat
  injection hat with hat
  injection hat with _ hat
  rw [hrun, hat]
set_option maxRecDepth 100000 in
theorem MG.put (h : MG w B m G) (hl : m < maxLen) {n : ByteArray} (hn : n.size ≤ maxLen) {c x : Nat} (hm : x = max (val G n) c) (hw : (Lit.int .i64 (x : Int)).wf = true) :
    ∃ w', (Instr.mapUpdate 103 (.map (some B)) (.string n) (.int .i64 (x : Nat))).run Try.prog w = .ok () w' ∧ MG w' B (m + 1) (mxu n c G) ∧ w.grownBy w' (some B) := by
  obtain ⟨D, es, h, rfl, hp, hnd⟩ := h
  obtain ⟨w', hrun, r1, r2⟩ := h.update law Try.underlying103 hl (keyS hn) (plainElem_int Try.underlying3 hw)
  refine ⟨w', hrun, ⟨_, _, r1, rfl, ?_, hnd.mxu⟩, r2⟩
  refine (ins_perm _ _).trans (((hp.filter _).cons _).trans ?_)
  rw [hm]
  exact put_perm hnd
set_option maxRecDepth 100000 in
theorem MG.len (h : MG w B m G) (ty : TypeId) : (Builtin.len_ #[103] ty #[.map (some B)]).run Try.prog w = .ok (.int .i64 (G.length : Nat)) w := by
  obtain ⟨D, es, ⟨es', clock, hb, _, _, hD⟩, rfl, hp, _⟩ := h
  have hl : es.length = es'.size := by
    injection hD with hD
    rw [hD, length_sorted]; simp
  rw [hp.length_eq, List.length_map] at hl
  rw [run_len_map (P := Try.prog) w 103 ty B es' clock (by kernel_rfl) hb, ← hl]
  rfl
/-- A store at the operation. -/
theorem wpList_mg {ops : Array Oper} {rest : List Oper} {o : Oper} {a : Act} {Q : Exit → Act → World → Prop} (h : MG w B m G) (hg : o.guard = none) (mo xo vo : Operand) (hop : o.op = Op.mapUpdate 103 mo xo vo)
    (hmo : a.eval mo = .map (some B)) {n : ByteArray} {c y : Nat} {z : Int} (hx : a.eval xo = .string n) (hv : a.eval vo = .int .i64 z) (hz : z = (y : Int)) (hl : m < maxLen) (hn : n.size ≤ maxLen) (hm : y = max (val G n) c) (hw : (Lit.int .i64 (y : Int)).wf = true)
    (hK : ∀ w', MG w' B (m + 1) (mxu n c G) → w.grownBy w' (some B) → wpList Try.prog ops Q rest (a.put o.dst undef) w') : wpList Try.prog ops Q (o :: rest) a w := by
  subst hz
  refine wpList_plain hg fun K' hK' => ?_
  obtain ⟨w', hrun, r1, r2⟩ := h.put hl hn hm hw
  unfold Oper.wp
  simp [execOp, hop, hmo, hx, hv, hrun, Result.andThen]
  exact hK' _ _ (hK w' r1 r2)
/-- What is still to come, together. -/
def lsum (G : Gr) (left : Lit → Bool) : Nat := ((G.filter fun p => left (kl p.1)).map (·.2)).sum
theorem lsum_none {left : Lit → Bool} (h : ∀ z, left z = false) : lsum G left = 0 := by
  unfold lsum
  rw [List.filter_eq_nil_iff.2 fun p _ => by rw [h]; decide]; rfl
theorem lsum_all {left : Lit → Bool} (h : ∀ p ∈ G, left (kl p.1) = true) : lsum G left = sum2 G := by
  unfold lsum sum2
  rw [List.filter_eq_self.2 h]
end
theorem lsum_step {left : Lit → Bool} {p : ByteArray × Nat} : ∀ {G : Gr}, Nd G → p ∈ G → left (kl p.1) = true → lsum G left = p.2 + lsum G (fun z => left z && !z.sameKey (kl p.1))
  | q :: r, hn, hp, hl => by
    unfold Nd at hn
    rw [List.map_cons, List.nodup_cons] at hn
    rcases List.mem_cons.1 hp with rfl | hp
    · have e : lsum r (fun z => left z && !z.sameKey (kl p.1)) = lsum r left := by
        unfold lsum
        congr 2
        refine List.filter_congr fun x hx => ?_
        have hne : x.1 ≠ p.1 := fun e => hn.1 (by rw [← e]; exact List.mem_map.2 ⟨x, hx, rfl⟩)
        show (left (kl x.1) && !(kl x.1).sameKey (kl p.1)) = _
        rw [same_kl, decide_eq_false hne]; simp
      unfold lsum at e ⊢
      rw [List.filter_cons_of_pos (by simpa using hl), List.filter_cons_of_neg (by show ¬ (left (kl p.1) && !(kl p.1).sameKey (kl p.1)) = true; rw [same_kl, decide_eq_true rfl]; simp), e]
      simp
    · have ih := lsum_step (G := r) hn.2 hp hl
      have hne : q.1 ≠ p.1 := fun e => hn.1 (by rw [e]; exact List.mem_map.2 ⟨p, hp, rfl⟩)
      have e2 : (left (kl q.1) && !(kl q.1).sameKey (kl p.1)) = left (kl q.1) := by rw [same_kl, decide_eq_false hne]; simp
      unfold lsum at ih ⊢
      by_cases hq : left (kl q.1) = true
      · rw [List.filter_cons_of_pos (by simpa using hq), List.filter_cons_of_pos (by dsimp only; rw [e2]; exact hq), List.map_cons, List.sum_cons, List.map_cons, List.sum_cons, ih]; omega
      · rw [List.filter_cons_of_neg (by simpa using hq), List.filter_cons_of_neg (by dsimp only; rw [e2]; exact hq)]
        exact ih
end Go.Proofs.Ytolkghdeppoanaa.SfG
