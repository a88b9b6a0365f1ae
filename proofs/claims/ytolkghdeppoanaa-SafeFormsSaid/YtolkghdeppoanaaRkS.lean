/-
  A rack in memory: its head, its files, its loose writes; what a call may have turned.
-/
import Derived.Test.YtolkghdeppoanaaRkE
set_option linter.unusedVariables false
set_option linter.unusedSimpArgs false
namespace Go.Proofs.Ytolkghdeppoanaa.RkS
open Go.RowKit Go.Proofs.Ytolkghdeppoanaa.BxD Go.Proofs.Ytolkghdeppoanaa.BxKit Go.Proofs.Ytolkghdeppoanaa.RkO Go.Proofs.Ytolkghdeppoanaa.RkC Go.Proofs.Ytolkghdeppoanaa.RkD Go.Proofs.Ytolkghdeppoanaa.RkR Go.Proofs.Ytolkghdeppoanaa.RkK Go.Proofs.Ytolkghdeppoanaa.RkP Go.Proofs.Ytolkghdeppoanaa.RkQ Go.Proofs.Ytolkghdeppoanaa.RkE

/-- A loose write with its data's slice. -/
structure RC where
  name : ByteArray
  cut : Bool
  r : RD
def cOf (r : RC) : Ch := ⟨r.name, r.cut, r.r.d⟩
def cell3 (r : RC) : List Value := [.string r.name, .bool r.cut, .slice r.r.A r.r.d.length r.r.c]
def cc (l : List RC) : List Value := l.flatMap cell3
set_option maxRecDepth 100000 in
theorem cc_length : ∀ l : List RC, (cc l).length = l.length * 3
  | [] => rfl
  | r :: l => by
    have := cc_length l
    unfold cc at this ⊢
    rw [List.flatMap_cons, List.length_append, this, List.length_cons]
    simp [cell3]; omega
set_option maxRecDepth 100000 in
theorem cc_append (a b : List RC) : cc (a ++ b) = cc a ++ cc b := by unfold cc; rw [List.flatMap_append]
set_option maxRecDepth 100000 in
theorem cc_get : ∀ (l : List RC) (i f : Nat) (r : RC), l[i]? = some r → f < 3 → (cc l)[i * 3 + f]? = (cell3 r)[f]?
  | r0 :: l, 0, f, r, h, hf => by
    obtain rfl : r0 = r := by simpa using h
    unfold cc
    rw [List.flatMap_cons, Nat.zero_mul, Nat.zero_add, List.getElem?_append_left (by simpa [cell3] using hf)]
  | r0 :: l, i + 1, f, r, h, hf => by
    have := cc_get l i f r (by simpa using h) hf
    unfold cc at this ⊢
    rw [List.flatMap_cons, List.getElem?_append_right (by simp [cell3]; omega), ← this]
    congr 1
    simp [cell3]; omega
/-- Loose writes in a row of the call's own. -/
def LooseAt (w : World) (base : Nat) (A : Option Addr) (n c : Nat) (l : List Ch) : Prop :=
  ∃ rs : List RC, rs.map cOf = l ∧ w.ownsRow base 42 3 (.slice A n c) n (cc rs) ∧ ∀ r ∈ rs, ByT w r.r.A r.r.d.length r.r.d ∧ r.r.d.length ≤ r.r.c
section
variable {w w' : World} {base n c : Nat} {A : Option Addr} {l : List Ch}
set_option maxRecDepth 100000 in
theorem LooseAt.len (h : LooseAt w base A n c l) : l.length = n := by
  obtain ⟨rs, rfl, h, _⟩ := h
  have := h.1
  rw [cc_length] at this
  rw [List.length_map]; omega
set_option maxRecDepth 100000 in
theorem LooseAt.nil (w : World) (base : Nat) : LooseAt w base none 0 0 [] := ⟨[], rfl, World.ownsRow_nil _ _ _ _, fun r hr => by simp at hr⟩
set_option maxRecDepth 100000 in
theorem LooseAt.cap (h : LooseAt w base A n c l) : n ≤ c := by
  obtain ⟨rs, _, h, _⟩ := h
  obtain ⟨A', cp, e, hk⟩ := RkR.own_slice h
  injection e with _ _ e
  omega
set_option maxRecDepth 100000 in
theorem LooseAt.blk (h : LooseAt w base A n c l) {ad : Addr} (hA : A = some ad) : base ≤ ad.block ∧ ad.block < w.heap.size ∧ ∃ cs, w.heap[ad.block]? = some (.cells cs 42 (0, 0)) := by
  obtain ⟨rs, _, h, _⟩ := h
  subst hA
  rcases h.2 with ⟨hv, _⟩ | ⟨g, cap, cur, hv, hb, hg, _⟩
  · injection hv with hv; cases hv
  · injection hv with hv
    injection hv with hv
    subst hv
    exact ⟨hb, (Array.getElem?_eq_some_iff.1 hg).1, _, hg⟩
set_option maxRecDepth 100000 in
theorem LooseAt.keep (h : LooseAt w base A n c l) (hk : Kp w w') {r : Option Nat} (hg : w.grownBy w' r) (hr : ∀ ad, A = some ad → r ≠ some ad.block) : LooseAt w' base A n c l := by
  obtain ⟨rs, e, ho, hd⟩ := h
  refine ⟨rs, e, ho.kept hg ?_, fun r hr => ⟨(hd r hr).1.kp hk, (hd r hr).2⟩⟩
  rcases ho.2 with ⟨hv, _⟩ | ⟨g, cap, cur, hv, hb, hgg, _⟩
  · injection hv with hv; subst hv; exact .inl rfl
  · injection hv with hv; subst hv; exact .inr (fun e => hr _ rfl e.symm)
set_option maxRecDepth 100000 in
theorem LooseAt.below (h : LooseAt w base A n c l) (hb : Below w.heap.size w w') : LooseAt w' base A n c l := h.keep (Kp.below hb (Nat.le_refl _)) (RkO.grown_below hb (row := none)) (fun _ _ => by simp)
set_option maxRecDepth 100000 in
/-- As the walk spells it: the three cells of a loose write. -/
theorem LooseAt.sp (h : LooseAt w base A n c l) (hb : Below w.heap.size w w') {j : Nat} (hj : j < n) :
    ∃ ad x b K kd kc, A = some ad ∧ l[j]? = some ⟨x, b, kd⟩ ∧ w'.cell? (ad.add (j * 3)) = some (.string x) ∧ w'.cell? { block := (ad.add (j * 3)).block, off := (ad.add (j * 3)).off + 1 } = some (.bool b) ∧
      w'.cell? { block := (ad.add (j * 3)).block, off := (ad.add (j * 3)).off + 2 } = some (.slice K kd.length kc) ∧ kd.length ≤ kc ∧ ByT w' K kd.length kd := by
  obtain ⟨rs, rfl, ho, hd⟩ := h.below hb
  have hl := ho.1
  rw [cc_length] at hl
  rcases ho.2 with ⟨hv, h0⟩ | ⟨g, cap, cur, hv, hb, hgg, _⟩
  · omega
  injection hv with hv
  subst hv
  have hg : rs[j]? = some (rs[j]'(by omega)) := List.getElem?_eq_getElem (by omega)
  have h0 := cc_get rs j 0 _ hg (by decide)
  have h1 := cc_get rs j 1 _ hg (by decide)
  have h2 := cc_get rs j 2 _ hg (by decide)
  have hdd := hd _ (List.mem_of_getElem? hg)
  rcases hx : rs[j]'(by omega) with ⟨x, b, ⟨K, kc, kd⟩⟩
  rw [hx] at hg h0 h1 h2 hdd
  have hcell : ∀ f u, (cc rs)[j * 3 + f]? = some u → w'.cell? (((⟨g, 0, none⟩ : Addr).add (j * 3)).add f) = some u := fun f u hu => by
    rw [BxKit.add_add]; exact ho.cells (g := g) rfl _ _ hu
  have ea : ∀ (q : Addr) (f : Nat), q.add (f + 1) = { block := q.block, off := q.off + (f + 1) } := fun q f => by unfold Addr.add; simp
  refine ⟨_, x, b, K, kd, kc, rfl, by rw [List.getElem?_map, hg]; rfl, ?_, ?_, ?_, hdd.2, hdd.1⟩
  · have := hcell 0 _ (by rw [h0]; rfl)
    rwa [BxKit.add_add, Nat.add_zero] at this
  · have := hcell 1 _ (by rw [h1]; rfl)
    rwa [ea _ 0] at this
  · have := hcell 2 _ (by rw [h2]; rfl)
    rwa [ea _ 1] at this
end

/-- What a call on the rack at T with the loose writes' row at LA may have turned: that block, that row. -/
structure Fr (w w' : World) (T : Nat) (LA : Option Addr) : Prop where
  os : w'.os = w.os
  tape : w'.tape = w.tape
  output : w'.output = w.output
  size : w.heap.size ≤ w'.heap.size
  block : ∀ k, k < w.heap.size → k ≠ T → (∀ ad, LA = some ad → k ≠ ad.block) → w'.heap[k]? = w.heap[k]?
set_option maxRecDepth 100000 in
theorem Fr.of {w w' : World} {T : Nat} {LA : Option Addr} (h : Below w.heap.size w w') : Fr w w' T LA := ⟨h.os, h.tape, h.output, h.size, fun k hk _ _ => h.block k hk⟩
set_option maxRecDepth 100000 in
theorem Fr.grown {a b c : World} {T : Nat} {LA : Option Addr} {r : Option Nat} (h : Fr a b T LA) (g : b.grownBy c r) (hr : ∀ k, r = some k → k < a.heap.size → k = T ∨ ∃ ad, LA = some ad ∧ k = ad.block) : Fr a c T LA := by
  refine ⟨g.os.trans h.os, g.tape.trans h.tape, g.output.trans h.output, Nat.le_trans h.size g.size, fun k hk h1 h2 => ?_⟩
  refine (g.block k (Nat.lt_of_lt_of_le hk h.size) fun e => ?_).trans (h.block k hk h1 h2)
  rcases hr k e.symm hk with h3 | ⟨ad, h3, h4⟩
  · exact h1 h3
  · exact h2 ad h3 h4
set_option maxRecDepth 100000 in
theorem Fr.set {a b : World} {T : Nat} {LA : Option Addr} (h : Fr a b T LA) (i : Nat) (u : Value) : Fr a (b.setCell ⟨T, i, none⟩ u) T LA := h.grown (setCell_grown b ⟨T, i, none⟩ u) fun k e _ => .inl (by injection e with e; exact e.symm)
set_option maxRecDepth 100000 in
theorem Fr.below {a b c : World} {T : Nat} {LA : Option Addr} (h : Fr a b T LA) (hb : Below b.heap.size b c) : Fr a c T LA := h.grown (RkO.grown_below hb (row := none)) fun k e _ => by cases e
set_option maxRecDepth 100000 in
theorem Fr.drew {a b : World} {T : Nat} {LA : Option Addr} (h : Fr a b T LA) : Fr a b.drew T LA := ⟨h.os, h.tape, h.output, h.size, h.block⟩
set_option maxRecDepth 100000 in
theorem Fr.alloc {a b : World} {T : Nat} {LA : Option Addr} (h : Fr a b T LA) (o : Obj) : Fr a (b.alloc o) T LA := h.below (below_alloc b o)
set_option maxRecDepth 100000 in
/-- Old memory stays, if T and the row lie from B on. -/
theorem Fr.old {a b : World} {T B : Nat} {LA : Option Addr} (h : Fr a b T LA) (hB : B ≤ a.heap.size) (hT : B ≤ T) (hL : ∀ ad, LA = some ad → B ≤ ad.block) : Below B a b :=
  ⟨h.os, h.tape, h.output, h.size, fun k hk => h.block k (by omega) (by omega) fun ad e => by have := hL ad e; omega⟩
/-- The row of loose writes is what it was, or new. -/
def LNew (w : World) (LA LA' : Option Addr) : Prop := ∀ ad', LA' = some ad' → w.heap.size ≤ ad'.block ∨ ∃ ad, LA = some ad ∧ ad'.block = ad.block

def fuseV (f : Option Nat) : Int := (f.getD 0 : Nat)
/-- The rack at T is as s says. -/
structure Rk (w : World) (base T : Nat) (s : St) (SA : Option Addr) (sn sc : Nat) (FA : Option Addr) (fn fcp : Nat) (LA : Option Addr) (ln lc : Nat) : Prop where
  head : Row w T 74 [.int .i64 s.room, .slice SA sn sc, .slice FA fn fcp, .slice LA ln lc, .int .i64 s.writes, .bool s.down, .bool s.fuse.isSome, .int .i64 (fuseV s.fuse)]
  low : base ≤ T
  sure : FilesT w SA sn s.sure
  scap : sn ≤ sc
  files : FilesT w FA fn s.files
  fcap : fn ≤ fcp
  loose : LooseAt w base LA ln lc s.loose
section
variable {w w' : World} {base T : Nat} {s : St} {SA FA LA : Option Addr} {sn sc fn fcp ln lc : Nat}
set_option maxRecDepth 100000 in
theorem Rk.cells (h : Rk w base T s SA sn sc FA fn fcp LA ln lc) {wr : World} (hb : wr.heap[T]? = w.heap[T]?) :
    wr.cell? { block := T, off := 0 } = some (.int .i64 s.room) ∧ wr.cell? { block := T, off := 1 } = some (.slice SA sn sc) ∧ wr.cell? { block := T, off := 2 } = some (.slice FA fn fcp) ∧ wr.cell? { block := T, off := 3 } = some (.slice LA ln lc) ∧
      wr.cell? { block := T, off := 4 } = some (.int .i64 s.writes) ∧ wr.cell? { block := T, off := 5 } = some (.bool s.down) ∧ wr.cell? { block := T, off := 6 } = some (.bool s.fuse.isSome) ∧ wr.cell? { block := T, off := 7 } = some (.int .i64 (fuseV s.fuse)) ∧
      ∀ i, wr.frozen? { block := T, off := i } = false := by
  have hr := h.head.same hb
  exact ⟨hr.cell 0, hr.cell 1, hr.cell 2, hr.cell 3, hr.cell 4, hr.cell 5, hr.cell 6, hr.cell 7, fun i => hr.frozen i⟩
set_option maxRecDepth 100000 in
theorem Rk.lt (h : Rk w base T s SA sn sc FA fn fcp LA ln lc) : T < w.heap.size := h.head.lt
set_option maxRecDepth 100000 in
theorem Rk.below (h : Rk w base T s SA sn sc FA fn fcp LA ln lc) (hb : Below w.heap.size w w') : Rk w' base T s SA sn sc FA fn fcp LA ln lc :=
  have hk := Kp.below hb (Nat.le_refl _)
  ⟨h.head.below hb h.lt, h.low, h.sure.kp hk, h.scap, h.files.kp hk, h.fcap, h.loose.below hb⟩
set_option maxRecDepth 100000 in
theorem Rk.lb (h : Rk w base T s SA sn sc FA fn fcp LA ln lc) : ∀ ad, LA = some ad → base ≤ ad.block := fun _ e => (h.loose.blk e).1
set_option maxRecDepth 100000 in
theorem Rk.kp (h : Rk w base T s SA sn sc FA fn fcp LA ln lc) (hf : Fr w w' T LA) : Kp w w' := by
  intro k hk
  refine hf.block k hk.lt ?_ ?_
  · rintro rfl
    obtain ⟨cs, t, fr, h1, h2⟩ := hk
    have h3 := h.head
    unfold Row at h3
    rw [h3] at h1
    injection h1 with h1
    injection h1 with _ e2
    subst e2
    rcases h2 with h2 | h2 <;> exact absurd h2 (by decide)
  · rintro ad e rfl
    obtain ⟨_, _, cs', h3⟩ := h.loose.blk e
    obtain ⟨cs, t, fr, h1, h2⟩ := hk
    rw [h3] at h1
    injection h1 with h1
    injection h1 with _ e2
    subst e2
    rcases h2 with h2 | h2 <;> exact absurd h2 (by decide)
set_option maxRecDepth 100000 in
theorem Rk.TL (h : Rk w base T s SA sn sc FA fn fcp LA ln lc) {ad : Addr} (e : LA = some ad) : T ≠ ad.block := by
  rintro rfl
  obtain ⟨_, _, cs, h1⟩ := h.loose.blk e
  have h3 := h.head
  unfold Row at h3
  rw [h3] at h1
  injection h1 with h1
  injection h1 with _ e2
  exact absurd e2 (by decide)
end
/-- The rack at T is as s says, the row of its loose writes at LA. -/
def RkX (w : World) (base T : Nat) (s : St) (LA : Option Addr) : Prop := ∃ SA sn sc FA fn fcp ln lc, Rk w base T s SA sn sc FA fn fcp LA ln lc
/-- What a call on a rack leaves. -/
def RkPost (w : World) (base T : Nat) (LA : Option Addr) (s' : St) (e0 : Ending) (e : Ending) (w' : World) : Prop := e = e0 ∧ ∃ LA', RkX w' base T s' LA' ∧ Fr w w' T LA ∧ LNew w LA LA'
set_option maxRecDepth 100000 in
theorem LNew.refl (w : World) (LA : Option Addr) : LNew w LA LA := fun ad e => .inr ⟨ad, e, rfl⟩
set_option maxRecDepth 100000 in
/-- A call that turns nothing. -/
theorem RkPost.same {w w' : World} {base T : Nat} {s : St} {SA FA LA : Option Addr} {sn sc fn fcp ln lc : Nat} (h : Rk w base T s SA sn sc FA fn fcp LA ln lc) (hb : Below w.heap.size w w') (e : Ending) : RkPost w base T LA s e e w' :=
  ⟨rfl, LA, ⟨_, _, _, _, _, _, _, _, h.below hb⟩, Fr.of hb, LNew.refl w LA⟩
set_option maxRecDepth 100000 in
/-- The head told anew, and what it tells. -/
theorem Rk.turn {w w' : World} {base T : Nat} {s s' : St} {SA FA LA SA' FA' LA' : Option Addr} {sn sc fn fcp ln lc sn' sc' fn' fcp' ln' lc' : Nat} (h : Rk w base T s SA sn sc FA fn fcp LA ln lc) (hf : Fr w w' T LA)
    (head : Row w' T 74 [.int .i64 s'.room, .slice SA' sn' sc', .slice FA' fn' fcp', .slice LA' ln' lc', .int .i64 s'.writes, .bool s'.down, .bool s'.fuse.isSome, .int .i64 (fuseV s'.fuse)])
    (sure : FilesT w SA' sn' s'.sure) (sc : sn' ≤ sc') (files : FilesT w FA' fn' s'.files) (fc : fn' ≤ fcp') (loose : LooseAt w' base LA' ln' lc' s'.loose) : Rk w' base T s' SA' sn' sc' FA' fn' fcp' LA' ln' lc' :=
  have hk := h.kp hf
  ⟨head, h.low, sure.kp hk, sc, files.kp hk, fc, loose⟩
end Go.Proofs.Ytolkghdeppoanaa.RkS
