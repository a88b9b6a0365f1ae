/-
  slices.Delete at a row of messages of the call's own; blocks of memory that are known whole.
-/
import Derived.Test.YtmkbmdoglcimbaaDoorBxC
import Derived.Laws.OwnMore
import Derived.Laws.CopyRow
import Derived.Deep.Draws
import Derived.Lib.Hide
import Derived.RegionTactic
import Derived.Deep.RegionLaw
namespace Go.Proofs.YtmkbmdoglcimbaaDoor.RwDel
open Go.RowKit Go.Proofs.YtmkbmdoglcimbaaDoor.BxD Go.Proofs.YtmkbmdoglcimbaaDoor.BxKit Go.Proofs.YtmkbmdoglcimbaaDoor.BxR Go.Proofs.YtmkbmdoglcimbaaDoor.BxC

/-! ## Blocks of memory that are known whole -/
def Row (w : World) (g : Nat) (t : TypeId) (l : List Value) : Prop := w.heap[g]? = some (.cells l.toArray t (0, 0))

section
variable {w w' : World} {g : Nat} {t : TypeId} {l : List Value}
theorem Row.lt (h : Row w g t l) : g < w.heap.size := (Array.getElem?_eq_some_iff.1 h).1
theorem Row.cell (h : Row w g t l) (i : Nat) : w.cell? ⟨g, i, none⟩ = l[i]? := by
  rw [cell_of_row w g i _ t (0, 0) h]; simp
theorem Row.frozen (h : Row w g t l) (i : Nat) : w.frozen? ⟨g, i, none⟩ = false := by
  unfold Row at h; simp [World.frozen?, h]
theorem Row.same (h : Row w g t l) (hb : w'.heap[g]? = w.heap[g]?) : Row w' g t l := hb.trans h
theorem Row.alloc (h : Row w g t l) (o : Obj) : Row (w.alloc o) g t l := h.same (Below.heap_alloc w o g h.lt)
theorem Row.below (h : Row w g t l) {B : Nat} (hb : Below B w w') (hg : g < B) : Row w' g t l := h.same (hb.block g hg)
theorem Row.stored (h : Row w g t l) (i : Nat) (u : Value) : Row (w.setCell ⟨g, i, none⟩ u) g t (l.set i u) := by
  unfold Row at *
  simp [World.setCell, Array.getElem?_modify, h]
theorem Row.far (h : Row w g t l) {p : Addr} (hp : g ≠ p.block) (u : Value) : Row (w.setCell p u) g t l := h.same (Below.heap_setCell w p u g hp)
theorem Row.laid (h : Row w g t l) (l' : List Value) : Row (w.setRow g l'.toArray) g t l' := setRow_heap w g _ _ t (0, 0) h
theorem Row.ne_ {g' : Nat} {t' : TypeId} {l' : List Value} (h : Row w g t l) (h' : Row w g' t' l') (hne : t ≠ t') : g ≠ g' := by
  rintro rfl
  unfold Row at h h'
  rw [h] at h'
  injection h' with h'
  injection h' with _ ht
  exact hne ht

/-- What the call owns, as a block: nil, or a row that begins with the cells. -/
theorem owns_cases {base : Nat} {e : TypeId} {s : Nat} {v : Value} {n : Nat} {xs : List Value} (h : w.ownsRow base e s v n xs) :
    (v = .slice none 0 0 ∧ n = 0 ∧ xs = []) ∨ ∃ g cap rest, v = .slice (some ⟨g, 0, none⟩) n cap ∧ base ≤ g ∧ Row w g e (xs ++ rest) ∧ n ≤ cap ∧ cap ≤ maxLen ∧ xs.length = n * s ∧ (xs ++ rest).length = cap * s := by
  obtain ⟨hl, hv⟩ := h
  rcases hv with ⟨rfl, rfl⟩ | ⟨g, cap, cur, rfl, hb, hg, hn, hm, hs, ht⟩
  · exact .inl ⟨rfl, rfl, List.eq_nil_of_length_eq_zero (by simpa using hl)⟩
  · refine .inr ⟨g, cap, cur.toList.drop (n * s), rfl, hb, ?_, hn, hm, hl, ?_⟩
    · unfold Row
      rw [← ht, List.take_append_drop, Array.toArray_toList]
      exact hg
    · rw [← ht, List.take_append_drop, Array.length_toList, hs]

theorem owns_mk {base : Nat} {e : TypeId} {s : Nat} {n cap : Nat} {xs rest : List Value} (hb : base ≤ g) (h : Row w g e (xs ++ rest)) (hn : n ≤ cap) (hm : cap ≤ maxLen) (hl : xs.length = n * s) (hs : (xs ++ rest).length = cap * s) :
    w.ownsRow base e s (.slice (some ⟨g, 0, none⟩) n cap) n xs :=
  ⟨hl, .inr ⟨g, cap, _, rfl, hb, h, hn, hm, by simpa using hs, by rw [← hl]; simp⟩⟩

theorem setRow_grown (w : World) (g : Nat) (cs : Array Value) : w.grownBy (w.setRow g cs) (some g) :=
  ⟨rfl, rfl, rfl, by simp [World.setRow], fun k _ hne => setRow_other w g k cs (fun e => hne (by rw [e]))⟩
theorem setCell_grown (w : World) (a : Addr) (u : Value) : w.grownBy (w.setCell a u) (some a.block) :=
  ⟨rfl, rfl, rfl, by simp [World.setCell], fun k _ hne => Below.heap_setCell w a u k (fun e => hne (by rw [e]))⟩
theorem grown_trans {a b c : World} {row : Option Nat} (h : a.grownBy b row) (k : b.grownBy c row) : a.grownBy c row :=
  ⟨k.os.trans h.os, k.tape.trans h.tape, k.output.trans h.output, Nat.le_trans h.size k.size, fun i hi hne => (k.block i (Nat.lt_of_lt_of_le hi h.size) hne).trans (h.block i hi hne)⟩
theorem grown_drew {a b : World} {row : Option Nat} (h : a.grownBy b row) : a.grownBy b.drew row := ⟨h.os, h.tape, h.output, h.size, h.block⟩
theorem grown_of_drew {a b : World} {row : Option Nat} (h : a.drew.grownBy b row) : a.grownBy b row := ⟨h.os, h.tape, h.output, h.size, h.block⟩
theorem grown_drewN {a b : World} {row : Option Nat} (h : a.grownBy b row) (n : Nat) : a.grownBy (b.drewN n) row := ⟨h.os, h.tape, h.output, h.size, h.block⟩
/-- a new block may turn: it was not there -/
theorem grown_new {a b c : World} {row : Option Nat} {g : Nat} (h : a.grownBy b row) (k : b.grownBy c (some g)) (hg : a.heap.size ≤ g) : a.grownBy c row :=
  ⟨k.os.trans h.os, k.tape.trans h.tape, k.output.trans h.output, Nat.le_trans h.size k.size, fun i hi hne => (k.block i (Nat.lt_of_lt_of_le hi h.size) (fun e => by injection e with e; omega)).trans (h.block i hi hne)⟩
theorem grown_below {a b : World} {row : Option Nat} (h : Below a.heap.size a b) : a.grownBy b row := ⟨h.os, h.tape, h.output, h.size, fun i hi _ => h.block i hi⟩
theorem grown_refl (w : World) (row : Option Nat) : w.grownBy w row := ⟨rfl, rfl, rfl, Nat.le_refl _, fun _ _ _ => rfl⟩
end

/-! ## copy and clear over a block that is known whole, elements of any size -/
section
variable {P : Program}

theorem step_append_eq {ops : Array Oper} {o : Oper} {a : Act} {w : World} {K : Act → World → Prop} {Q : Exit → Act → World → Prop} {E : Prop}
    (hg : o.guard = none) (d x : Operand) (dT sT : TypeId) (hop : o.op = Op.call { callee := Callee.builtin Builtin.append, args := #[d, x], argTypes := #[dT, sT] })
    (v u : Value) (hd : a.eval d = v) (hx : a.eval x = u) {v' : Value} {w' : World} (hr : (Builtin.append_ #[dT, sT] o.type #[v, u]).run P w = .ok v' w') (hK : K (a.put o.dst v') w') :
    if Region.wanted o (yielded ops a.tmps) = true then Oper.wp P o a w K Q else E := by
  have hw : Region.wanted o (yielded ops a.tmps) = true := by simp [Region.wanted, hg]
  rw [if_pos hw]
  unfold Oper.wp
  simp [execOp, hop, resolve, invoke, builtin, hd, hx, hr, Result.andThen]
  exact hK

theorem run_clear_row (w : World) (t e ty : TypeId) (z : Value) (zs : List Value) (ht : P.underlying t = some (.slice e)) (hv : ∀ w, (zeroValue e).run P w = .ok z w) (hz : z.cells = zs.toArray) (h1 : ∀ v ∈ zs, v.oneCell' = true) (g o c : Nat) (l : List Value) (tt : TypeId)
    (hg : Row w g tt l) (hfit : o + zs.length ≤ l.length) :
    (Builtin.clear_ #[t] ty #[.slice (some ⟨g, o, none⟩) 1 c]).run P w = .ok (.tuple #[]) (w.setRow g (l.take o ++ (zs ++ l.drop (o + zs.length))).toArray) := by
  have hzc : (Builtin.zeroCells z.cells 1).toList = zs := by
    rw [hz]
    simp [Builtin.zeroCells]
    apply List.ext_getElem
    · simp
    · intro i h1 h2
      simp at h1
      simp [Nat.mod_eq_of_lt h1, List.getElem?_eq_getElem h1]
  have hst := run_storeCells_at P g o tt zs 0 l.toArray w hg (by simpa using hfit) h1
  simp only [Nat.add_zero, List.append_assoc] at hst
  simp [Builtin.clear_, run_underlying ht, hv, hzc, hst]
end

theorem mc_take (l : List Raw) (i : Nat) : mc (l.take i) = (mc l).take (i * 7) := by
  by_cases h : i ≤ l.length
  · have hl : (mc (l.take i)).length = i * 7 := by rw [mc_length, List.length_take]; omega
    have := mc_append (l.take i) (l.drop i)
    rw [List.take_append_drop] at this
    rw [this]
    exact (List.take_left' hl).symm
  · rw [List.take_of_length_le (by omega), List.take_of_length_le (by rw [mc_length]; omega)]
theorem mc_drop (l : List Raw) (i : Nat) : mc (l.drop i) = (mc l).drop (i * 7) := by
  by_cases h : i ≤ l.length
  · have hl : (mc (l.take i)).length = i * 7 := by rw [mc_length, List.length_take]; omega
    have := mc_append (l.take i) (l.drop i)
    rw [List.take_append_drop] at this
    rw [this]
    exact (List.drop_left' hl).symm
  · rw [List.drop_of_length_le (by omega), List.drop_of_length_le (by rw [mc_length]; omega)]; rfl

theorem zv : ∀ w, (zeroValue 28).run Tryd.prog w = .ok (.agg [.int .i64 0, .int .i64 0, .int .i64 0, .string ⟨#[]⟩, .int .i64 0, .slice none 0 0, .string ⟨#[]⟩].toArray) w := fun _ => by kernel_rfl

/-- the row behind the delete: what stood ahead of i, what stood behind it, then a zero element and what lay there -/
theorem del_list (xs rest zs : List Value) (i n : Nat) (hx : xs.length = n * 7) (hi : i < n) (hz : zs.length = 7) :
    ∃ rest', (((xs ++ rest).take (i * 7) ++ (xs.drop ((i + 1) * 7) ++ (xs ++ rest).drop (i * 7 + (xs.drop ((i + 1) * 7)).length))).take ((n - 1) * 7) ++ (zs ++ ((xs ++ rest).take (i * 7) ++ (xs.drop ((i + 1) * 7) ++ (xs ++ rest).drop (i * 7 + (xs.drop ((i + 1) * 7)).length))).drop ((n - 1) * 7 + zs.length))) = (xs.take (i * 7) ++ xs.drop ((i + 1) * 7)) ++ rest' ∧
      rest'.length = rest.length + 7 := by
  have hdl : (xs.drop ((i + 1) * 7)).length = (n - 1 - i) * 7 := by rw [List.length_drop, hx]; omega
  have h1 : (xs ++ rest).take (i * 7) = xs.take (i * 7) := List.take_append_of_le_length (by omega)
  generalize hD : xs.drop ((i + 1) * 7) = D at *
  have hpre : (xs.take (i * 7) ++ D).length = (n - 1) * 7 := by rw [List.length_append, List.length_take, hdl]; omega
  rw [h1]
  generalize hX : (xs ++ rest).drop (i * 7 + D.length) = X
  have hXl : X.length = rest.length + 7 := by rw [← hX, List.length_drop, List.length_append, hdl]; omega
  rw [show xs.take (i * 7) ++ (D ++ X) = (xs.take (i * 7) ++ D) ++ X from (List.append_assoc _ _ _).symm]
  refine ⟨zs ++ X.drop zs.length, ?_, ?_⟩
  · rw [List.take_append_of_le_length (by omega), List.take_of_length_le (by omega), ← List.drop_drop, ← hpre, List.drop_left]
  · rw [List.length_append, List.length_drop, hXl, hz]; omega

def DelPost (w : World) (base : Nat) (V : Value) (ps : List Raw) (e : Ending) (w' : World) : Prop :=
  ∃ V', e = .returned V' ∧ w'.ownsRow base 28 7 V' ps.length (mc ps) ∧ w.grownBy w' V.ownBlock

set_option maxHeartbeats 1000000 in
set_option maxRecDepth 100000 in
theorem del (w : World) (base g cap i : Nat) (ps : List Raw) (rest : List Value) (hn : ps.length ≤ 1000) (hb : base ≤ g) (hr : Row w g 28 (mc ps ++ rest)) (hcm : cap ≤ maxLen) (hl : (mc ps ++ rest).length = cap * 7)
    (hi : i < ps.length) (hnc : ps.length ≤ cap) :
    Calls Tryd.prog 90 #[.slice (some ⟨g, 0, none⟩) ps.length cap, .int .i64 i, .int .i64 ((i : Int) + 1)] w (DelPost w base (.slice (some ⟨g, 0, none⟩) ps.length cap) (ps.take i ++ ps.drop (i + 1))) := by
  obtain ⟨i0, hi0, hz0, hz1, hz2⟩ := info_parts elM.info
  have hcl := mc_length ps
  obtain ⟨zs, hzs⟩ : ∃ zs : List Value, zs = [.int .i64 0, .int .i64 0, .int .i64 0, .string ⟨#[]⟩, .int .i64 0, .slice none 0 0, .string ⟨#[]⟩] := ⟨_, rfl⟩
  have hzl : zs.length = 7 := by rw [hzs]; rfl
  obtain ⟨rest', hR1, hR2⟩ := del_list (mc ps) rest zs i ps.length hcl hi hzl
  obtain ⟨cs, hcs⟩ : ∃ cs, cs = (mc ps).drop ((i + 1) * 7) := ⟨_, rfl⟩
  rw [← hcs] at hR1
  obtain ⟨L, hL⟩ : ∃ L, L = mc ps ++ rest := ⟨_, rfl⟩
  rw [← hL] at hr hl hR1
  obtain ⟨L1, hL1⟩ : ∃ L1, L1 = L.take (i * 7) ++ (cs ++ L.drop (i * 7 + cs.length)) := ⟨_, rfl⟩
  rw [← hL1] at hR1
  have hcsl : cs.length = (ps.length - (i + 1)) * 7 := by rw [hcs, List.length_drop, hcl]; omega
  have honec : ∀ u ∈ cs, u.oneCell' = true := fun u hu => mc_one ps u (by rw [hcs] at hu; exact List.mem_of_mem_drop hu)
  have honez : ∀ u ∈ zs, u.oneCell' = true := by
    intro u hu
    rw [hzs] at hu
    simp only [List.mem_cons, List.not_mem_nil, or_false] at hu
    rcases hu with rfl | rfl | rfl | rfl | rfl | rfl | rfl <;> rfl
  have hrd : Row w.drew g 28 L := hr
  obtain ⟨A, hA, hsrc⟩ : ∃ A : Addr, (if cap = i + 1 then some (⟨g, 0, none⟩ : Addr) else some ⟨g, (i + 1) * 7, none⟩) = some A ∧ (∀ t u, cs[t]? = some u → w.drew.cell? (A.add t) = some u) := by
    by_cases h : cap = i + 1
    · refine ⟨⟨g, 0, none⟩, by simp [h], fun t u hu => ?_⟩
      rw [List.eq_nil_of_length_eq_zero (show cs.length = 0 by omega)] at hu
      simp at hu
    · refine ⟨⟨g, (i + 1) * 7, none⟩, by simp [h], fun t u hu => ?_⟩
      rw [Addr.add_lit, hrd.cell, hL]
      rw [hcs, List.getElem?_drop] at hu
      rw [List.getElem?_append_left (List.getElem?_eq_some_iff.1 hu).1]
      exact hu
  have hap : ∀ ty sc, (Builtin.append_ #[23, 23] ty #[.slice (some ⟨g, 0, none⟩) i cap, .slice (some A) (ps.length - (i + 1)) sc]).run Tryd.prog w.drew = _ := fun ty sc =>
    run_append_room (P := Tryd.prog) w.drew 23 ty 28 i0 Tryd.underlying23 hi0 g i cap L.toArray hrd A (ps.length - (i + 1)) sc cs (by rw [hz1]; exact hcsl) hsrc honec (by omega) (by rw [hz1]; simp; omega)
  rw [hz1, show (L.toArray.toList.take (i * 7) ++ cs ++ L.toArray.toList.drop (i * 7 + cs.length)) = L1 by rw [hL1]; simp] at hap
  obtain ⟨W1, hW1⟩ : ∃ W1, W1 = w.drew.setRow g L1.toArray := ⟨_, rfl⟩
  rw [← hW1, show i + (ps.length - (i + 1)) = ps.length - 1 by omega] at hap
  have hr1 : Row W1 g 28 L1 := by rw [hW1]; exact hrd.laid L1
  have hL1l : L1.length = cap * 7 := by rw [hL1]; simp; omega
  have hclr : ∀ ty sc, (Builtin.clear_ #[23] ty #[.slice (some ⟨g, (ps.length - 1) * 7, none⟩) 1 sc]).run Tryd.prog W1 = _ := fun ty sc =>
    run_clear_row W1 23 28 ty (.agg [.int .i64 0, .int .i64 0, .int .i64 0, .string ⟨#[]⟩, .int .i64 0, .slice none 0 0, .string ⟨#[]⟩].toArray) zs Tryd.underlying23 zv (by rw [hzs]; rfl) honez g ((ps.length - 1) * 7) sc L1 28 hr1 (by omega)
  rw [hR1] at hclr
  obtain ⟨L2, hL2⟩ : ∃ L2, L2 = (mc ps).take (i * 7) ++ cs ++ rest' := ⟨_, rfl⟩
  rw [← hL2] at hclr
  have hclr2 : ∀ ty sc, (Builtin.clear_ #[23] ty #[.slice (some ⟨g, (ps.length - 1) * 7, none⟩) (ps.length - (ps.length - 1)) sc]).run Tryd.prog W1 = .ok (.tuple #[]) (W1.setRow g L2.toArray) := fun ty sc => by
    rw [show ps.length - (ps.length - 1) = 1 by omega]
    exact hclr ty sc
  clear hclr
  have hfin : DelPost w base (.slice (some ⟨g, 0, none⟩) ps.length cap) (ps.take i ++ ps.drop (i + 1)) (.returned (.slice (some ⟨g, 0, none⟩) (ps.length - 1) cap)) (W1.setRow g L2.toArray) := by
    rw [hL2]
    refine ⟨_, rfl, ?_, ?_⟩
    · have hlen : (ps.take i ++ ps.drop (i + 1)).length = ps.length - 1 := by simp; omega
      have hcc : mc (ps.take i ++ ps.drop (i + 1)) = (mc ps).take (i * 7) ++ cs := by rw [mc_append, mc_take, mc_drop, hcs]
      rw [hlen, hcc]
      refine owns_mk (rest := rest') hb (hr1.laid _) (by omega) hcm ?_ ?_
      · rw [← hcc, mc_length, hlen]
      · rw [List.length_append, ← hcc, mc_length, hlen, hR2]
        rw [hL, List.length_append, hcl] at hl
        omega
    · refine grown_trans ?_ (setRow_grown W1 g _)
      rw [hW1]
      exact grown_of_drew (setRow_grown w.drew g _)
  have HF := Lib.hid hfin
  have hml : cap ≤ 9223372036854775807 := by unfold maxLen at hcm; omega
  generalize hN : ps.length = n at *
  have hq1 : i ≤ cap := by omega
  have hq2 : i + 1 ≤ cap := by omega
  have hq3 : i + 1 ≤ n := by omega
  have hq4 : (i : Int) + 1 ≤ (n : Int) := by omega
  have hq5 : (n : Int) - 1 = ((n - 1 : Nat) : Int) := by omega
  have hz9 : ((i : Int) == (i : Int) + 1) = false := by rw [beq_eq_false_iff_ne]; omega
  have hw1 : IntKind.i64.wrap ((i : Int) + 1) = (i : Int) + 1 := by rw [IntKind.wrap_i64]; omega
  have hb1 : (0 : Int) ≤ (i : Int) + 1 := by omega
  have htn : ((i : Int) + 1).toNat = i + 1 := by omega
  have hcne : ¬ (cap = n - 1) := by omega
  clear hL2 hfin hR1 hR2 hL hL1 hzs hcs hcsl hN hcl hsrc honec honez hrd hr hr1 hl hW1 hL1l hzl
  go_enter Tryd.func90, Tryd.ntmps90
  go_wp2_with fail
  go_region_law (refine step_append_eq rfl (.tmp 22) (.tmp 25) 23 23 rfl (.slice (some ⟨g, 0, none⟩) i cap) (.slice (some A) (n - (i + 1)) (cap - (i + 1))) (by simp [Act.eval, Act.put]) (by simp [Act.eval, Act.put]) (hap _ (cap - (i + 1))) ?_)
  go_wp2
  go_ret
  exact HF.out

end Go.Proofs.YtmkbmdoglcimbaaDoor.RwDel
