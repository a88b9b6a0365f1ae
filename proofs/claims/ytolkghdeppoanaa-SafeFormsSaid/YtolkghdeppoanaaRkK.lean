/-
  Files in memory: their cells, their data; what stays of them when other blocks turn. A rack in memory.
-/
import Derived.Test.YtolkghdeppoanaaRkD
import Derived.Test.YtolkghdeppoanaaRkR
import Derived.Test.YtolkghdeppoanaaJ1
set_option linter.unusedVariables false
set_option linter.unusedSimpArgs false
namespace Go.Proofs.Ytolkghdeppoanaa.RkK
open Go.RowKit Go.Proofs.Ytolkghdeppoanaa.BxD Go.Proofs.Ytolkghdeppoanaa.BxKit Go.Proofs.Ytolkghdeppoanaa.RkO Go.Proofs.Ytolkghdeppoanaa.RkC Go.Proofs.Ytolkghdeppoanaa.RkD Go.Proofs.Ytolkghdeppoanaa.RkR

set_option maxRecDepth 100000 in
theorem elF : El 38 44 (.agg #[.string ⟨#[]⟩, .slice none 0 0]) 2 40 := ⟨Try.underlying38, by kernel_rfl, rfl, by decide⟩
set_option maxRecDepth 100000 in
theorem elC : El 22 42 (.agg #[.string ⟨#[]⟩, .bool false, .slice none 0 0]) 3 48 := ⟨Try.underlying22, by kernel_rfl, rfl, by decide⟩

/-! ## Blocks of files and of bytes, which nobody writes -/
def KeepT (w : World) (k : Nat) : Prop := ∃ cs t fr, w.heap[k]? = some (.cells cs t fr) ∧ (t = 44 ∨ t = 5)
def Kp (w w' : World) : Prop := ∀ k, KeepT w k → w'.heap[k]? = w.heap[k]?
set_option maxRecDepth 100000 in
theorem KeepT.lt {w : World} {k : Nat} (h : KeepT w k) : k < w.heap.size := by obtain ⟨cs, t, fr, h, _⟩ := h; exact (Array.getElem?_eq_some_iff.1 h).1
set_option maxRecDepth 100000 in
theorem KeepT.kp {w w' : World} {k : Nat} (h : KeepT w k) (hk : Kp w w') : KeepT w' k := by
  have e := hk k h
  obtain ⟨cs, t, fr, h, ht⟩ := h
  exact ⟨cs, t, fr, e.trans h, ht⟩
set_option maxRecDepth 100000 in
theorem Kp.refl (w : World) : Kp w w := fun _ _ => rfl
set_option maxRecDepth 100000 in
theorem Kp.trans {a b c : World} (h : Kp a b) (k : Kp b c) : Kp a c := fun i hi => (k i (hi.kp h)).trans (h i hi)
set_option maxRecDepth 100000 in
theorem Kp.below {w w' : World} {B : Nat} (h : Below B w w') (hB : w.heap.size ≤ B) : Kp w w' := fun k hk => h.block k (by have := hk.lt; omega)
set_option maxRecDepth 100000 in
theorem Kp.alloc (w : World) (o : Obj) : Kp w (w.alloc o) := Kp.below ((Below.refl w.heap.size w).alloc (Nat.le_refl _) o) (Nat.le_refl _)
set_option maxRecDepth 100000 in
theorem Kp.drew {w w' : World} (h : Kp w w') : Kp w w'.drew := h
set_option maxRecDepth 100000 in
theorem Kp.grown {w w' : World} {r : Option Nat} (h : w.grownBy w' r) (hr : ∀ g, r = some g → ∃ cs t fr, w.heap[g]? = some (.cells cs t fr) ∧ t ≠ 44 ∧ t ≠ 5) : Kp w w' := by
  intro k hk
  refine h.block k hk.lt fun e => ?_
  obtain ⟨cs, t, fr, h1, h2, h3⟩ := hr k e.symm
  obtain ⟨cs', t', fr', h1', h4⟩ := hk
  rw [h1] at h1'
  injection h1' with h1'
  injection h1' with _ e2
  subst e2
  rcases h4 with h4 | h4
  · exact h2 h4
  · exact h3 h4
set_option maxRecDepth 100000 in
theorem Kp.setCell {w : World} {T : Nat} {t : TypeId} {l : List Value} (h : Row w T t l) (h1 : t ≠ 44) (h2 : t ≠ 5) (i : Nat) (u : Value) : Kp w (w.setCell ⟨T, i, none⟩ u) :=
  Kp.grown (setCell_grown w ⟨T, i, none⟩ u) fun g e => by injection e with e; exact ⟨_, t, _, by rw [← e]; exact h, h1, h2⟩

/-- Blocks of bytes alone. -/
def KeepU (w : World) (k : Nat) : Prop := ∃ cs fr, w.heap[k]? = some (.cells cs 5 fr)
def Ku (w w' : World) : Prop := ∀ k, KeepU w k → w'.heap[k]? = w.heap[k]?
set_option maxRecDepth 100000 in
theorem KeepU.t {w : World} {k : Nat} (h : KeepU w k) : KeepT w k := by obtain ⟨cs, fr, h⟩ := h; exact ⟨cs, _, fr, h, .inr rfl⟩
set_option maxRecDepth 100000 in
theorem KeepU.lt {w : World} {k : Nat} (h : KeepU w k) : k < w.heap.size := h.t.lt
set_option maxRecDepth 100000 in
theorem KeepU.ku {w w' : World} {k : Nat} (h : KeepU w k) (hk : Ku w w') : KeepU w' k := by
  have e := hk k h
  obtain ⟨cs, fr, h⟩ := h
  exact ⟨cs, fr, e.trans h⟩
set_option maxRecDepth 100000 in
theorem Kp.ku {w w' : World} (h : Kp w w') : Ku w w' := fun k hk => h k hk.t
set_option maxRecDepth 100000 in
theorem Ku.trans {a b c : World} (h : Ku a b) (k : Ku b c) : Ku a c := fun i hi => (k i (hi.ku h)).trans (h i hi)
set_option maxRecDepth 100000 in
theorem Ku.grown {w w' : World} {r : Option Nat} (h : w.grownBy w' r) (hr : ∀ g, r = some g → ∃ cs t fr, w.heap[g]? = some (.cells cs t fr) ∧ t ≠ 5) : Ku w w' := by
  intro k hk
  refine h.block k hk.lt fun e => ?_
  obtain ⟨cs, t, fr, h1, h3⟩ := hr k e.symm
  obtain ⟨cs', fr', h1'⟩ := hk
  rw [h1] at h1'
  injection h1' with h1'
  injection h1' with _ e2
  exact h3 e2
/-- Data of a file: bytes that nobody writes. -/
def ByT (w : World) (A : Option Addr) (n : Nat) (d : List UInt8) : Prop :=
  d.length = n ∧ (0 < n → ∃ ad, A = some ad ∧ KeepU w ad.block ∧ ∀ j c, d[j]? = some c → w.cell? (ad.add j) = some (.int .u8 (c.toNat : Int)))
set_option maxRecDepth 100000 in
theorem ByT.ku {w w' : World} {A : Option Addr} {n : Nat} {d : List UInt8} (h : ByT w A n d) (hk : Ku w w') : ByT w' A n d := by
  refine ⟨h.1, fun hn => ?_⟩
  obtain ⟨ad, e, ht, hc⟩ := h.2 hn
  refine ⟨ad, e, ht.ku hk, fun j c hj => ?_⟩
  have hb : w'.heap[(ad.add j).block]? = w.heap[(ad.add j).block]? := by rw [BxKit.add_block]; exact hk _ ht
  rw [World.cell?_of_block hb]
  exact hc j c hj
set_option maxRecDepth 100000 in
theorem ByT.kp {w w' : World} {A : Option Addr} {n : Nat} {d : List UInt8} (h : ByT w A n d) (hk : Kp w w') : ByT w' A n d := h.ku hk.ku
set_option maxRecDepth 100000 in
theorem ByT.nil (w : World) (A : Option Addr) : ByT w A 0 [] := ⟨rfl, fun h => absurd h (Nat.lt_irrefl 0)⟩
set_option maxRecDepth 100000 in
theorem ByT.at_ {w : World} {A : Option Addr} {n : Nat} {d : List UInt8} (h : ByT w A n d) : PkKit.BytesAt w w.heap.size A n d := by
  refine ⟨h.1, fun hn => ?_⟩
  obtain ⟨ad, e, ht, hc⟩ := h.2 hn
  exact ⟨ad, e, ht.lt, hc⟩
set_option maxRecDepth 100000 in
/-- A row of the call's own is a file's data, from now on. -/
theorem byT_own {w : World} {base n cp : Nat} {A : Option Addr} {d : List UInt8} (h : w.ownsRow base 5 1 (.slice A n cp) n (PkKit.by_ d)) : ByT w A n d := by
  have hl := h.1
  rw [PkKit.by_length] at hl
  refine ⟨by omega, fun hn => ?_⟩
  rcases h.2 with ⟨hv, rfl⟩ | ⟨g, cap, cur, hv, hb, hg, hnc, hm, hs, ht⟩
  · omega
  · have hA : A = some ⟨g, 0, none⟩ := by injection hv
    subst hA
    exact ⟨_, rfl, ⟨_, _, hg⟩, fun j c hj => h.cells (g := g) rfl _ _ (PkKit.by_get hj)⟩

/-! ## Files -/
structure RD where
  A : Option Addr
  c : Nat
  d : List UInt8
/-- A file with its data's slice. -/
abbrev RF : Type := ByteArray × RD
def fOf (r : RF) : F := (r.1, r.2.d)
def cell2 (r : RF) : List Value := [.string r.1, .slice r.2.A r.2.d.length r.2.c]
def fc (l : List RF) : List Value := l.flatMap cell2
def DOk (w : World) (r : RF) : Prop := ByT w r.2.A r.2.d.length r.2.d ∧ r.2.d.length ≤ r.2.c
set_option maxRecDepth 100000 in
theorem fc_length : ∀ l : List RF, (fc l).length = l.length * 2
  | [] => rfl
  | r :: l => by
    have := fc_length l
    unfold fc at this ⊢
    rw [List.flatMap_cons, List.length_append, this, List.length_cons]
    simp [cell2]; omega
set_option maxRecDepth 100000 in
theorem fc_append (a b : List RF) : fc (a ++ b) = fc a ++ fc b := by unfold fc; rw [List.flatMap_append]
set_option maxRecDepth 100000 in
theorem fc_get : ∀ (l : List RF) (i f : Nat) (r : RF), l[i]? = some r → f < 2 → (fc l)[i * 2 + f]? = (cell2 r)[f]?
  | r0 :: l, 0, f, r, h, hf => by
    obtain rfl : r0 = r := by simpa using h
    unfold fc
    rw [List.flatMap_cons, Nat.zero_mul, Nat.zero_add, List.getElem?_append_left (by simpa [cell2] using hf)]
  | r0 :: l, i + 1, f, r, h, hf => by
    have := fc_get l i f r (by simpa using h) hf
    unfold fc at this ⊢
    rw [List.flatMap_cons, List.getElem?_append_right (by simp [cell2]; omega), ← this]
    congr 1
    simp [cell2]; omega
set_option maxRecDepth 100000 in
theorem fc_one (l : List RF) : ∀ u ∈ fc l, u.oneCell' = true := by
  intro u hu
  unfold fc at hu
  obtain ⟨r, _, h⟩ := List.mem_flatMap.1 hu
  simp only [cell2, List.mem_cons, List.not_mem_nil, or_false] at h
  rcases h with rfl | rfl <;> rfl
set_option maxRecDepth 100000 in
theorem fc_take (l : List RF) (i : Nat) : fc (l.take i) = (fc l).take (i * 2) := by
  by_cases h : i ≤ l.length
  · have hl : (fc (l.take i)).length = i * 2 := by rw [fc_length, List.length_take]; omega
    have := fc_append (l.take i) (l.drop i)
    rw [List.take_append_drop] at this
    rw [this]
    exact (List.take_left' hl).symm
  · rw [List.take_of_length_le (by omega), List.take_of_length_le (by rw [fc_length]; omega)]
set_option maxRecDepth 100000 in
theorem fc_drop (l : List RF) (i : Nat) : fc (l.drop i) = (fc l).drop (i * 2) := by
  by_cases h : i ≤ l.length
  · have hl : (fc (l.take i)).length = i * 2 := by rw [fc_length, List.length_take]; omega
    have := fc_append (l.take i) (l.drop i)
    rw [List.take_append_drop] at this
    rw [this]
    exact (List.drop_left' hl).symm
  · rw [List.drop_of_length_le (by omega), List.drop_of_length_le (by rw [fc_length]; omega)]; rfl
/-- Files in memory, raw. -/
def FilesR (w : World) (A : Option Addr) (n : Nat) (rs : List RF) : Prop :=
  rs.length = n ∧ (∀ r ∈ rs, DOk w r) ∧ (0 < n → ∃ ad, A = some ad ∧ KeepT w ad.block ∧ ∀ j u, (fc rs)[j]? = some u → w.cell? (ad.add j) = some u)
section
variable {w w' : World} {A : Option Addr} {n : Nat} {rs : List RF}
set_option maxRecDepth 100000 in
theorem FilesR.nil (w : World) (A : Option Addr) : FilesR w A 0 [] := ⟨rfl, fun r hr => by simp at hr, fun h => absurd h (Nat.lt_irrefl 0)⟩
set_option maxRecDepth 100000 in
theorem FilesR.kp (h : FilesR w A n rs) (hk : Kp w w') : FilesR w' A n rs := by
  refine ⟨h.1, fun r hr => ⟨(h.2.1 r hr).1.kp hk, (h.2.1 r hr).2⟩, fun hn => ?_⟩
  obtain ⟨ad, e, ht, hc⟩ := h.2.2 hn
  refine ⟨ad, e, ht.kp hk, fun j u hj => ?_⟩
  have hb : w'.heap[(ad.add j).block]? = w.heap[(ad.add j).block]? := by rw [BxKit.add_block]; exact hk _ ht
  rw [World.cell?_of_block hb]
  exact hc j u hj
set_option maxRecDepth 100000 in
theorem FilesR.src (h : FilesR w A n rs) : Src w A n 2 (fc rs) := by
  refine ⟨by rw [fc_length, h.1], fc_one rs, fun hn => ?_⟩
  obtain ⟨ad, e, _, hc⟩ := h.2.2 hn
  exact ⟨ad, e, hc⟩
set_option maxRecDepth 100000 in
theorem FilesR.take (h : FilesR w A n rs) {k : Nat} (hk : k ≤ n) : FilesR w A k (rs.take k) := by
  refine ⟨by rw [List.length_take, h.1]; omega, fun r hr => h.2.1 r (List.mem_of_mem_take hr), fun hn => ?_⟩
  obtain ⟨ad, rfl, ht, hc⟩ := h.2.2 (by omega)
  refine ⟨ad, rfl, ht, fun j u hj => hc j u ?_⟩
  rw [fc_take, List.getElem?_take] at hj
  split at hj
  · exact hj
  · cases hj
set_option maxRecDepth 100000 in
theorem FilesR.cut (h : FilesR w A n rs) {k cp : Nat} (hk : k ≤ n) (hc : n ≤ cp) : FilesR w (if cp = k then A else A.map (·.add (k * 2))) (n - k) (rs.drop k) := by
  refine ⟨by rw [List.length_drop, h.1], fun r hr => h.2.1 r (List.mem_of_mem_drop hr), fun hn => ?_⟩
  obtain ⟨ad, rfl, ht, hcell⟩ := h.2.2 (by omega)
  rw [if_neg (by omega)]
  refine ⟨ad.add (k * 2), rfl, by rw [BxKit.add_block]; exact ht, fun j u hj => ?_⟩
  rw [BxKit.add_add]
  exact hcell _ u (by rw [← hj, fc_drop, List.getElem?_drop])
set_option maxRecDepth 100000 in
/-- As the walk spells it: the two cells of a file. -/
theorem FilesR.sp (h : FilesR w A n rs) (hk : Kp w w') {j : Nat} (hj : j < n) :
    ∃ ad x K kd kc, A = some ad ∧ rs[j]? = some (x, ⟨K, kc, kd⟩) ∧ w'.cell? (ad.add (j * 2)) = some (.string x) ∧ w'.cell? { block := (ad.add (j * 2)).block, off := (ad.add (j * 2)).off + 1 } = some (.slice K kd.length kc) ∧
      kd.length ≤ kc ∧ ByT w' K kd.length kd := by
  have h' := h.kp hk
  obtain ⟨ad, e, ht, hc⟩ := h'.2.2 (by omega)
  have hl := h'.1
  have hg : rs[j]? = some (rs[j]'(by omega)) := List.getElem?_eq_getElem (by omega)
  have h0 := fc_get rs j 0 _ hg (by decide)
  have h1 := fc_get rs j 1 _ hg (by decide)
  have hd := h'.2.1 _ (List.mem_of_getElem? hg)
  rcases hx : rs[j]'(by omega) with ⟨x, K, kc, kd⟩
  rw [hx] at hg h0 h1 hd
  refine ⟨ad, x, K, kd, kc, e, hg, ?_, ?_, hd.2, hd.1⟩
  · exact hc (j * 2) _ (by rw [← Nat.add_zero (j * 2), h0]; rfl)
  · have h2 := hc (j * 2 + 1) _ (by rw [h1]; rfl)
    rw [← BxKit.add_add] at h2
    rw [show ∀ q : Addr, q.add 1 = { block := q.block, off := q.off + 1 } from fun q => by unfold Addr.add; simp] at h2
    exact h2
end
set_option maxRecDepth 100000 in
theorem filesR_own {w : World} {base n cp : Nat} {A : Option Addr} {rs : List RF} (h : w.ownsRow base 44 2 (.slice A n cp) n (fc rs)) (hd : ∀ r ∈ rs, DOk w r) : FilesR w A n rs := by
  have hl := h.1
  rw [fc_length] at hl
  refine ⟨by omega, hd, fun hn => ?_⟩
  rcases h.2 with ⟨hv, rfl⟩ | ⟨g, cap, cur, hv, hb, hg, hnc, hm, hs, ht⟩
  · omega
  · have hA : A = some ⟨g, 0, none⟩ := by injection hv
    subst hA
    exact ⟨_, rfl, ⟨_, _, _, hg, .inl rfl⟩, fun j u hj => h.cells (g := g) rfl _ _ hj⟩
def FilesT (w : World) (A : Option Addr) (n : Nat) (l : List F) : Prop := ∃ rs : List RF, rs.map fOf = l ∧ FilesR w A n rs
set_option maxRecDepth 100000 in
theorem FilesT.kp {w w' : World} {A : Option Addr} {n : Nat} {l : List F} (h : FilesT w A n l) (hk : Kp w w') : FilesT w' A n l := by
  obtain ⟨rs, e, h⟩ := h
  exact ⟨rs, e, h.kp hk⟩
set_option maxRecDepth 100000 in
theorem FilesT.len {w : World} {A : Option Addr} {n : Nat} {l : List F} (h : FilesT w A n l) : l.length = n := by
  obtain ⟨rs, rfl, h⟩ := h
  rw [List.length_map, h.1]
set_option maxRecDepth 100000 in
theorem FilesT.nil (w : World) (A : Option Addr) : FilesT w A 0 [] := ⟨[], rfl, FilesR.nil w A⟩
set_option maxRecDepth 100000 in
theorem FilesT.sp {w w' : World} {A : Option Addr} {n : Nat} {l : List F} (h : FilesT w A n l) (hk : Kp w w') {j : Nat} (hj : j < n) :
    ∃ ad x K kd kc, A = some ad ∧ l[j]? = some (x, kd) ∧ w'.cell? (ad.add (j * 2)) = some (.string x) ∧ w'.cell? { block := (ad.add (j * 2)).block, off := (ad.add (j * 2)).off + 1 } = some (.slice K kd.length kc) ∧
      kd.length ≤ kc ∧ ByT w' K kd.length kd := by
  obtain ⟨rs, rfl, h⟩ := h
  obtain ⟨ad, x, K, kd, kc, h1, h2, h3⟩ := h.sp hk hj
  exact ⟨ad, x, K, kd, kc, h1, by rw [List.getElem?_map, h2]; rfl, h3⟩
end Go.Proofs.Ytolkghdeppoanaa.RkK
