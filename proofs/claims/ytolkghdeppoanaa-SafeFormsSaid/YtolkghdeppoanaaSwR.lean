/-
  Rows of changes and of bytes that a call makes of others: sources, what came out.
-/
import Derived.Test.YtolkghdeppoanaaSfF
set_option linter.unusedVariables false
set_option linter.unusedSimpArgs false
namespace Go.Proofs.Ytolkghdeppoanaa.SwR
open Go.RowKit Go.Proofs.Ytolkghdeppoanaa.PkA Go.Proofs.Ytolkghdeppoanaa.BxD Go.Proofs.Ytolkghdeppoanaa.BxKit Go.Proofs.Ytolkghdeppoanaa.PkKit Go.Proofs.Ytolkghdeppoanaa.RkD Go.Proofs.Ytolkghdeppoanaa.RkR Go.Proofs.Ytolkghdeppoanaa.RkK Go.Proofs.Ytolkghdeppoanaa.RkS Go.Proofs.Ytolkghdeppoanaa.SfC

set_option maxRecDepth 100000 in
theorem elB : El 23 5 (.int .u8 0) 1 1 := ⟨Try.underlying23, by kernel_rfl, rfl, by decide⟩
/-- Where a row's data lie. -/
def Dr (w : World) (base lo hi : Nat) (r : RC) : Prop := byP w base lo hi r.r.A r.r.d.length r.r.d ∧ r.r.d.length ≤ r.r.c
section
variable {w w' : World} {base lo hi n : Nat} {A : Option Addr} {l : List Ch}
theorem ea (q : Addr) (f : Nat) : q.add (f + 1) = fld q (f + 1) := by unfold Addr.add fld; simp
theorem chs_src (h : ChsP w base lo hi A n l) : ∃ rs : List RC, rs.map cOf = l ∧ Src w A n 3 (cc rs) ∧ ∀ r ∈ rs, Dr w base lo hi r := by
  have key : ∀ ad : Addr, (∀ j c, l[j]? = some c → chP w base lo hi (ad.add (j * 3)) c) → ∀ m, m ≤ l.length → ∃ rs : List RC, rs.map cOf = l.take m ∧ (∀ r ∈ rs, Dr w base lo hi r) ∧ (∀ j u, (cc rs)[j]? = some u → w.cell? (ad.add j) = some u) := by
    intro ad hc m
    induction m with
    | zero => intro _; exact ⟨[], rfl, fun r hr => by simp at hr, fun j u hj => by simp [cc] at hj⟩
    | succ m ih =>
      intro hm
      obtain ⟨rs, h1, h2, h3⟩ := ih (by omega)
      have hg : l[m]? = some (l[m]'(by omega)) := List.getElem?_eq_getElem (by omega)
      obtain ⟨g0, g1, D, dc, g2, g3, g4⟩ := hc m _ hg
      have hlen : rs.length = m := by have := congrArg List.length h1; rw [List.length_map, List.length_take] at this; omega
      refine ⟨rs ++ [⟨(l[m]'(by omega)).name, (l[m]'(by omega)).cut, ⟨D, dc, (l[m]'(by omega)).data⟩⟩], ?_, ?_, ?_⟩
      · rw [List.map_append, h1, List.take_succ_eq_append_getElem (by omega)]; rfl
      · intro r hr
        rcases List.mem_append.1 hr with hr | hr
        · exact h2 r hr
        · obtain rfl := List.mem_singleton.1 hr
          exact ⟨g4, g3⟩
      · intro j u hj
        rw [cc_append, List.getElem?_append] at hj
        split at hj
        · exact h3 j u hj
        · rename_i hge
          rw [cc_length, hlen] at hge hj
          have hj3 : j - m * 3 < 3 := by
            have := (List.getElem?_eq_some_iff.1 hj).1
            simpa [cc, cell3] using this
          have hx : ∀ f, j - m * 3 = f → ad.add j = (ad.add (m * 3)).add f := fun f hf => by rw [BxKit.add_add]; congr 1; omega
          obtain ⟨f, hf⟩ : ∃ f, j - m * 3 = f := ⟨_, rfl⟩
          rw [hx f hf]
          rw [hf] at hj hj3
          match f, hj3, hj with
          | 0, _, hj => obtain rfl : Value.string _ = u := Option.some.inj hj; rw [BxKit.add_add, Nat.add_zero]; exact g0
          | 1, _, hj => obtain rfl : Value.bool _ = u := Option.some.inj hj; rw [ea _ 0]; exact g1
          | 2, _, hj => obtain rfl : Value.slice _ _ _ = u := Option.some.inj hj; rw [ea _ 1]; exact g2
  have one : ∀ rs : List RC, ∀ u ∈ cc rs, u.oneCell' = true := by
    intro rs u hu
    unfold cc at hu
    obtain ⟨r, _, hr⟩ := List.mem_flatMap.1 hu
    simp [cell3] at hr
    rcases hr with h | h | h <;> (subst h; rfl)
  by_cases hn : 0 < n
  · obtain ⟨ad, e, _, hc⟩ := h.2 hn
    obtain ⟨rs, h1, h2, h3⟩ := key ad hc l.length (Nat.le_refl _)
    rw [List.take_length] at h1
    refine ⟨rs, h1, ⟨by rw [cc_length, ← h.1, ← h1, List.length_map], one rs, fun _ => ⟨ad, e, h3⟩⟩, h2⟩
  · have hl : l = [] := List.eq_nil_of_length_eq_zero (by have := h.1; omega)
    subst hl
    exact ⟨[], rfl, ⟨by simp [cc]; have := h.1; simp at this; omega, fun u hu => by simp [cc] at hu, fun h => absurd h hn⟩, fun r hr => by simp at hr⟩
theorem Dr.keep {r : RC} (h : Dr w base lo hi r) (hk : Kb base lo hi w w') : Dr w' base lo hi r := ⟨h.1.keep hk, h.2⟩
theorem Dr.up {r : RC} {b2 lo2 hi2 : Nat} (hp : ∀ k, Pb base lo hi k → Pb b2 lo2 hi2 k) (h : Dr w base lo hi r) : Dr w b2 lo2 hi2 r := by
  obtain ⟨⟨h1, h2⟩, h3⟩ := h
  refine ⟨⟨h1, fun hn => ?_⟩, h3⟩
  obtain ⟨ad, e, hb, hc⟩ := h2 hn
  exact ⟨ad, e, hp _ hb, hc⟩
/-- A row of the call's own, as changes. -/
theorem chs_own {B c : Nat} {rs : List RC} (h : w.ownsRow B 42 3 (.slice A n c) n (cc rs)) (hd : ∀ r ∈ rs, Dr w base lo hi r) (hp : ∀ g, B ≤ g → g < w.heap.size → Pb base lo hi g) : ChsP w base lo hi A n (rs.map cOf) := by
  have hl := h.1
  rw [cc_length] at hl
  refine ⟨by rw [List.length_map]; omega, fun h0 => ?_⟩
  rcases h.2 with ⟨hv, hq⟩ | ⟨g, cap, cur, hv, hb, hg, _⟩
  · omega
  injection hv with hv
  subst hv
  refine ⟨_, rfl, hp g hb (Array.getElem?_eq_some_iff.1 hg).1, fun j c hj => ?_⟩
  rw [List.getElem?_map] at hj
  cases hx : rs[j]? with
  | none => rw [hx] at hj; cases hj
  | some x =>
    rw [hx] at hj
    obtain rfl : cOf x = c := Option.some.inj hj
    obtain ⟨hd1, hd2⟩ := hd x (List.mem_of_getElem? hx)
    have hcell : ∀ f u, f < 3 → (cell3 x)[f]? = some u → w.cell? (((⟨g, 0, none⟩ : Addr).add (j * 3)).add f) = some u := fun f u hf hu => by
      rw [BxKit.add_add]; exact h.cells (g := g) rfl _ _ ((cc_get rs j f _ hx hf).trans hu)
    refine ⟨?_, ?_, x.r.A, x.r.c, ?_, hd2, hd1⟩
    · have := hcell 0 _ (by decide) rfl
      rwa [BxKit.add_add, Nat.add_zero] at this
    · have := hcell 1 _ (by decide) rfl
      rwa [ea _ 0] at this
    · have := hcell 2 _ (by decide) rfl
      rwa [ea _ 1] at this
/-- All that lies in memory. -/
theorem chs_all (h : ChsP w base lo hi A n l) (hb : base ≤ w.heap.size) (hh : hi ≤ w.heap.size) : ChsP w w.heap.size 0 0 A n l := by
  refine ⟨h.1, fun hn => ?_⟩
  obtain ⟨ad, e, hp, hx⟩ := h.2 hn
  refine ⟨ad, e, .inl (by unfold Pb at hp; omega), fun j c hj => ?_⟩
  obtain ⟨h0, h1, D, dc, h2, h3, h4, h5⟩ := hx j c hj
  refine ⟨h0, h1, D, dc, h2, h3, h4, fun hd => ?_⟩
  obtain ⟨ad2, e2, hb2, hc2⟩ := h5 hd
  exact ⟨ad2, e2, .inl (by unfold Pb at hb2; omega), hc2⟩
theorem by_src {B m : Nat} {d : List UInt8} (h : BytesAt w B A m d) : Src w A m 1 (by_ d) := by
  refine ⟨by rw [by_length, h.1, Nat.mul_one], fun u hu => by unfold by_ at hu; obtain ⟨x, _, rfl⟩ := List.mem_map.1 hu; rfl, fun hn => ?_⟩
  obtain ⟨ad, e, _, hc⟩ := h.2 hn
  refine ⟨ad, e, fun j u hu => ?_⟩
  have hu : (d.map (fun c => Value.int .u8 (c.toNat : Int)))[j]? = some u := hu
  rw [List.getElem?_map] at hu
  cases hx : d[j]? with
  | none => rw [hx] at hu; cases hu
  | some x =>
    rw [hx] at hu
    obtain rfl : Value.int .u8 _ = u := Option.some.inj hu
    exact hc j x hx
theorem cell_lt {a : Addr} {u : Value} (h : w.cell? a = some u) : a.block < w.heap.size := by
  rcases Nat.lt_or_ge a.block w.heap.size with h1 | h1
  · exact h1
  · have : w.heap[a.block]? = none := Array.getElem?_eq_none h1
    simp [World.cell?, this] at h
theorem src_keep {m sz : Nat} {news : List Value} (h : Src w A m sz news) (hb : Below w.heap.size w w') : Src w' A m sz news := by
  refine ⟨h.1, h.2.1, fun hm => ?_⟩
  obtain ⟨ad, e, hc⟩ := h.2.2 hm
  exact ⟨ad, e, fun j u hu => (World.cell?_of_block (hb.block _ (cell_lt (hc j u hu)))).trans (hc j u hu)⟩
/-- An empty row in a new block. -/
theorem own_empty {W : World} {B b : Nat} {t : TypeId} {sz : Nat} (h : W.heap[b]? = some (.cells #[] t (0, 0))) (hb : B ≤ b) : W.ownsRow B t sz (.slice (some ⟨b, 0, none⟩) 0 0) 0 [] :=
  ⟨by simp, .inr ⟨b, 0, #[], rfl, hb, h, Nat.le_refl _, Nat.zero_le _, by simp, by simp⟩⟩
theorem own_go {B e sz : Nat} {v : Value} {xs : List Value} (h : w.ownsRow B e sz v n xs) (hb : Below w.heap.size w w') : w'.ownsRow B e sz v n xs := h.kept (BxKit.grown_below hb none) (by cases hv : v.ownBlock <;> simp)
end
/-- An append whose guard says yes. -/
theorem wpList_rows_w {t e : TypeId} {z : Value} {sz by_ : Nat} (el : El t e z sz by_) {w : World} {base n m c : Nat} {v : Value} {xs news : List Value} {A : Option Addr} {ops : Array Oper} {rest : List Oper} {o : Oper} {a : Act} {Q : Exit → Act → World → Prop} (hw : Region.wanted o (yielded ops a.tmps) = true) (s x : Operand)
    (ho : o.op = .call { callee := .builtin .append, args := #[s, x], argTypes := #[t, t] }) (hs : a.eval s = v) (hx : a.eval x = .slice A m c) (hown : w.ownsRow base e sz v n xs) (hz : Src w A m sz news)
    (h63 : n + m ≤ maxLen) (hb : (n + m) * by_ ≤ 140737488355328) (hbase : base ≤ w.heap.size)
    (h : ∀ v' w', w'.ownsRow base e sz v' (n + m) (xs ++ news) → w.grownBy w' v.ownBlock → (v'.ownBlock = v.ownBlock ∨ v'.ownBlock = some w.heap.size) → wpList Try.prog ops Q rest (a.put o.dst v') w') : wpList Try.prog ops Q (o :: rest) a w :=
  BigFrame.wpList_want hw fun _ hK => wp_rows el s x ho hs hx hown hz h63 hb hbase fun v' w' h2 h3 h4 => hK _ _ (h v' w' h2 h3 h4)
end Go.Proofs.Ytolkghdeppoanaa.SwR
