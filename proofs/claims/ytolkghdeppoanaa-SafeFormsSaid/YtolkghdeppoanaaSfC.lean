/-
  Changes in memory; changes as bytes, behind a row of the call's own.
-/
import Derived.Test.YtolkghdeppoanaaSfR
import Derived.Test.YtolkghdeppoanaaRkK
import Derived.Lib.AtoiErrMem
import Derived.Deep.RegionHeld3
set_option linter.unusedVariables false
set_option linter.unusedSimpArgs false
namespace Go.Proofs.Ytolkghdeppoanaa.SfC
open Go.RowKit Go.Proofs.Ytolkghdeppoanaa.BxD Go.Proofs.Ytolkghdeppoanaa.BxKit Go.Proofs.Ytolkghdeppoanaa.PkKit Go.Proofs.Ytolkghdeppoanaa.PkA Go.Proofs.Ytolkghdeppoanaa.PkB Go.Proofs.Ytolkghdeppoanaa.PkC Go.Proofs.Ytolkghdeppoanaa.PkR Go.Proofs.Ytolkghdeppoanaa.SfM Go.Proofs.Ytolkghdeppoanaa.SfB Go.Proofs.Ytolkghdeppoanaa.SfA Go.Proofs.Ytolkghdeppoanaa.RkD

/-- A block that stays: below base, or from lo on below hi. -/
def Pb (base lo hi k : Nat) : Prop := k < base ∨ (lo ≤ k ∧ k < hi)
def byP (w : World) (base lo hi : Nat) (D : Option Addr) (n : Nat) (d : List UInt8) : Prop :=
  d.length = n ∧ (0 < n → ∃ ad, D = some ad ∧ Pb base lo hi ad.block ∧ ∀ j c, d[j]? = some c → w.cell? (ad.add j) = some (.int .u8 (c.toNat : Int)))
def chP (w : World) (base lo hi : Nat) (p : Addr) (c : Ch) : Prop :=
  w.cell? p = some (.string c.name) ∧ w.cell? (fld p 1) = some (.bool c.cut) ∧ ∃ D dc, w.cell? (fld p 2) = some (.slice D c.data.length dc) ∧ c.data.length ≤ dc ∧ byP w base lo hi D c.data.length c.data
/-- Changes in memory, in blocks that stay. -/
def ChsP (w : World) (base lo hi : Nat) (A : Option Addr) (n : Nat) (l : List Ch) : Prop :=
  l.length = n ∧ (0 < n → ∃ ad, A = some ad ∧ Pb base lo hi ad.block ∧ ∀ j c, l[j]? = some c → chP w base lo hi (ad.add (j * 3)) c)
/-- These blocks are as they were. -/
def Kb (base lo hi : Nat) (w w' : World) : Prop := ∀ k, Pb base lo hi k → w'.heap[k]? = w.heap[k]?
theorem Kb.refl (base lo hi : Nat) (w : World) : Kb base lo hi w w := fun _ _ => rfl
theorem Kb.trans {base lo hi : Nat} {a b c : World} (h : Kb base lo hi a b) (k : Kb base lo hi b c) : Kb base lo hi a c := fun i hi => (k i hi).trans (h i hi)
theorem Kb.below {base lo hi B : Nat} {w w' : World} (h : Below B w w') (h1 : base ≤ B) (h2 : hi ≤ B) : Kb base lo hi w w' := fun k hk => h.block k (by unfold Pb at hk; omega)
section
variable {w w' : World} {base lo hi n : Nat} {A D : Option Addr} {l : List Ch} {d : List UInt8}
theorem byP.keep (h : byP w base lo hi D n d) (hk : Kb base lo hi w w') : byP w' base lo hi D n d := by
  refine ⟨h.1, fun hn => ?_⟩
  obtain ⟨ad, e, hb, hc⟩ := h.2 hn
  exact ⟨ad, e, hb, fun j c hj => (World.cell?_of_block (by rw [BxKit.add_block]; exact hk _ hb)).trans (hc j c hj)⟩
theorem byP.at_ (h : byP w base lo hi D n d) (h1 : base ≤ w.heap.size) (h2 : hi ≤ w.heap.size) : BytesAt w w.heap.size D n d := by
  refine ⟨h.1, fun hn => ?_⟩
  obtain ⟨ad, e, hb, hc⟩ := h.2 hn
  exact ⟨ad, e, by unfold Pb at hb; omega, hc⟩
theorem byP.of {B : Nat} (h : BytesAt w B D n d) (hB : B ≤ base) : byP w base lo hi D n d := by
  refine ⟨h.1, fun hn => ?_⟩
  obtain ⟨ad, e, hb, hc⟩ := h.2 hn
  exact ⟨ad, e, .inl (by omega), hc⟩
theorem chP.keep {p : Addr} {c : Ch} (h : chP w base lo hi p c) (hp : Pb base lo hi p.block) (hk : Kb base lo hi w w') : chP w' base lo hi p c := by
  obtain ⟨h0, h1, D, dc, h2, h3, h4⟩ := h
  exact ⟨(World.cell?_of_block (hk _ hp)).trans h0, (World.cell?_of_block (a := fld p 1) (hk _ hp)).trans h1, D, dc, (World.cell?_of_block (a := fld p 2) (hk _ hp)).trans h2, h3, h4.keep hk⟩
theorem ChsP.keep (h : ChsP w base lo hi A n l) (hk : Kb base lo hi w w') : ChsP w' base lo hi A n l := by
  refine ⟨h.1, fun hn => ?_⟩
  obtain ⟨ad, e, hb, hc⟩ := h.2 hn
  exact ⟨ad, e, hb, fun j c hj => (hc j c hj).keep (by rw [BxKit.add_block]; exact hb) hk⟩
theorem ChsP.nil (w : World) (base lo hi : Nat) (A : Option Addr) : ChsP w base lo hi A 0 [] := ⟨rfl, fun h => absurd h (Nat.lt_irrefl 0)⟩
/-- As the walk spells it: the three cells of a change. -/
theorem ChsP.sp (h : ChsP w base lo hi A n l) (hk : Kb base lo hi w w') {j : Nat} (hj : j < n) :
    ∃ ad x b K kd kc, A = some ad ∧ l[j]? = some ⟨x, b, kd⟩ ∧ w'.cell? (ad.add (j * 3)) = some (.string x) ∧ w'.cell? { block := (ad.add (j * 3)).block, off := (ad.add (j * 3)).off + 1 } = some (.bool b) ∧
      w'.cell? { block := (ad.add (j * 3)).block, off := (ad.add (j * 3)).off + 2 } = some (.slice K kd.length kc) ∧ kd.length ≤ kc ∧ byP w' base lo hi K kd.length kd ∧ Pb base lo hi (ad.add (j * 3)).block := by
  obtain ⟨hl, h2⟩ := h.keep hk
  obtain ⟨ad, e, hb, hc⟩ := h2 (by omega)
  have hg : l[j]? = some (l[j]'(by omega)) := List.getElem?_eq_getElem (by omega)
  have hcc := hc j _ hg
  rcases hx : l[j]'(by omega) with ⟨x, b, kd⟩
  rw [hx] at hg hcc
  obtain ⟨h0, h1, D, dc, h3, h4, h5⟩ := hcc
  exact ⟨ad, x, b, D, kd, dc, e, hg, h0, h1, h3, h4, h5, by rw [BxKit.add_block]; exact hb⟩
end
theorem tx_len {s : ByteArray} (h : s.size ≤ 1099511627776) : (tx s).length ≤ 6 + s.size := by
  have h1 := uv_len h
  have h2 : s.data.toList.length = s.size := by rw [Array.length_toList]; rfl
  unfold tx
  rw [List.length_append]
  omega
theorem own_none {w : World} {base n : Nat} {v : Value} {xs : List Value} (h : Ow w base v n xs) : v.ownBlock ≠ some w.heap.size := by
  intro e
  have := (h.lt _ e).2
  omega
theorem conv_oo (w : World) (s : ByteArray) (hs : s.size ≤ 1000000) : OO w.heap.size w (Lib.bytesWorld w 5 s) s.size (.slice (some ⟨w.heap.size, 0, none⟩) s.size (grownCap w s.size 0 5)) s.data.toList := by
  have hge := grownCap_ge w s.size 0 5
  have hle := grownCap_le_maxLen w s.size 0 5 (by unfold maxLen; omega)
  have hsz : (Lib.bytesCells w 5 s).size = grownCap w s.size 0 5 := by
    have : s.data.size = s.size := rfl
    simp [Lib.bytesCells]
    omega
  refine ⟨.inr ⟨by rw [by_length, Array.length_toList]; rfl, w.heap.size, _, _, by rw [hsz], Nat.le_refl _, Lib.bytesWorld_at_new w 5 s, Nat.le_refl _, by rw [hsz]; exact hge, by rw [hsz]; exact hle, ?_⟩, Lib.bytesWorld_below w _ s, Nat.le_refl _⟩
  unfold Lib.bytesCells
  rw [Array.toList_append, List.take_left' (by simp)]
  simp [by_, Lib.byteCells]
theorem chB_true (nm : ByteArray) (d : List UInt8) : chB ⟨nm, true, d⟩ = nums [1] ++ tx nm := by unfold chB; rw [if_pos rfl]
theorem chB_false (nm : ByteArray) (d : List UInt8) : chB ⟨nm, false, d⟩ = nums [0] ++ tx nm ++ tx (baL d) := by unfold chB; rw [if_neg (by simp)]
set_option maxHeartbeats 4000000 in
set_option maxRecDepth 100000 in
theorem app_any {n B base : Nat} {w : World} {v : Value} {l : List UInt8} {nm : ByteArray} {ct : Bool} {D : Option Addr} {dn dc : Nat} {d : List UInt8} (hO : Ow w base v n (by_ l)) (hD : BytesAt w B D dn d) (hB : B ≤ base) (hbs : base ≤ w.heap.size) (hz : nm.size ≤ 1000000) (hdn : dn ≤ 1000000) (hn : n ≤ 549755813888) :
    Calls Try.prog 35 #[v, .agg #[.string nm, .bool ct, .slice D dn dc]] w fun e w' => ∃ v', e = .returned v' ∧ OM w v w' (n + (chB ⟨nm, ct, d⟩).length) v' (l ++ chB ⟨nm, ct, d⟩) := by
  have O0 := Lib.hid (OM.alloc (OM.start hO) (.cells #[.string nm, .bool ct, .slice D dn dc] 42))
  have M0 := Lib.hid (show RkO.Row (w.alloc (.cells #[.string nm, .bool ct, .slice D dn dc] 42)) w.heap.size 42 [.string nm, .bool ct, .slice D dn dc] from heap_alloc_new w _)
  have HD := Lib.hid (hD.below ((Below.refl base w).alloc hbs (.cells #[.string nm, .bool ct, .slice D dn dc] 42)) hB)
  have hP := own_none hO
  have HOB := Lib.hid (fun g e => (hO.lt g e).1)
  have hs0 : w.heap.size + 1 ≤ (w.alloc (.cells #[.string nm, .bool ct, .slice D dn dc] 42)).heap.size := by simp
  have hdl := hD.1
  obtain ⟨A, c0, rfl, hc0⟩ := hO.slice
  clear hO hD
  go_enter Try.func35, Try.ntmps35
  go_upto_region 1 with fail
  obtain ⟨P, hPe⟩ : ∃ P, P = w.heap.size := ⟨_, rfl⟩
  rw [← hPe] at M0 hs0 hP ⊢
  have hPb : base ≤ P := by omega
  clear hPe
  generalize (World.alloc w _) = w1 at O0 M0 HD hs0 ⊢
  have O1 := Lib.hid (OM.start O0.out.own)
  have HM := Lib.hid (fun (wr : World) (g : w1.grownBy wr (Value.slice A n c0).ownBlock) => show wr.cell? { block := P, off := 0 } = some (.string nm) ∧ wr.cell? { block := P, off := 1 } = some (.bool ct) ∧ wr.cell? { block := P, off := 2 } = some (.slice D dn dc) from by
    have h := M0.out.same (g.block P hs0 (fun e => hP e.symm))
    exact ⟨h.cell 0, h.cell 1, h.cell 2⟩)
  obtain ⟨m0, m1, m2⟩ := HM.out w1 (World.grownBy.refl _ _)
  cases ct with
  | true =>
    have ka := nums_any (base := 0) (cp := 1) ((OM.alloc O1.out (.cells #[.int .i64 1] 3)).own.kept ((Below.refl _ _).drew)) (ints_one w1 1) (by simp) (fun _ ad e => by injection e with e; subst e; exact own_none O1.out.own) (by omega)
    have hl1 := nums_len [1]
    obtain ⟨q, hq⟩ : ∃ q, q = (nums [1]).length := ⟨_, rfl⟩
    rw [← hq] at ka hl1
    have hq6 : q ≤ 6 := hl1
    have HQ := Lib.hid hq
    have KA := Lib.hid ka
    clear ka hq hl1
    go_upto_region 2 with fail
    go_region_held3 (fun wq => wq.cell? { block := P, off := 0 } = some (.string nm)) (with_reducible first | exact m0 | exact k2 | exact k3 | go_keep) (first
      | (go_at_call 60; go_loud (
         refine KA.out.mono ?_
         rintro e w2 ⟨v2, rfl, g2⟩
         obtain ⟨A2, c2, rfl, hc2⟩ := g2.own.slice
         have O2 := Lib.hid (OM.trans ((OM.alloc O1.out _).go ((Below.refl _ _).drew)) g2)
         have k2 := (HM.out w2 O2.out.fr).1
         have KB := Lib.hid (text_om (base := 0) O2.out.own nm (by omega) (by omega))
         clear g2
         dsimp only))
      | (go_at_call 59; go_loud (
         refine KB.out.mono ?_
         rintro e w3 ⟨v3, rfl, g3⟩
         obtain ⟨A3, c3, rfl, hc3⟩ := g3.own.slice
         have O3 := Lib.hid (OM.trans O2.out g3)
         have k3 := (HM.out w3 O3.out.fr).1
         clear g3
         dsimp only)))
    rename_i hHeld
    clear hHeld
    go_wp2_with fail
    go_ret
    refine ⟨_, rfl, ?_⟩
    have h := OM.trans O0.out O3.out
    rw [chB_true, List.length_append, ← HQ.out, ← List.append_assoc, ← Nat.add_assoc]
    exact h
  | false =>
    have ka := nums_any (base := 0) (cp := 1) ((OM.alloc O1.out (.cells #[.int .i64 0] 3)).own.kept ((Below.refl _ _).drew)) (ints_one w1 0) (by simp) (fun _ ad e => by injection e with e; subst e; exact own_none O1.out.own) (by omega)
    have hl1 := nums_len [0]
    obtain ⟨q, hq⟩ : ∃ q, q = (nums [0]).length := ⟨_, rfl⟩
    rw [← hq] at ka hl1
    have hq6 : q ≤ 6 := hl1
    have HQ := Lib.hid hq
    have KA := Lib.hid ka
    clear ka hq hl1
    go_upto_region 3 with fail
    go_region_held3 (fun wq => wq.cell? { block := P, off := 0 } = some (.string nm)) (with_reducible first | exact m0 | exact k2 | exact k3 | go_keep) (first
      | (go_at_call 60; go_loud (
         refine KA.out.mono ?_
         rintro e w2 ⟨v2, rfl, g2⟩
         obtain ⟨A2, c2, rfl, hc2⟩ := g2.own.slice
         have O2 := Lib.hid (OM.trans ((OM.alloc O1.out _).go ((Below.refl _ _).drew)) g2)
         have k2 := (HM.out w2 O2.out.fr).1
         have KB := Lib.hid (text_om (base := 0) O2.out.own nm (by omega) (by omega))
         clear g2
         dsimp only))
      | (go_at_call 59; go_loud (
         refine KB.out.mono ?_
         rintro e w3 ⟨v3, rfl, g3⟩
         obtain ⟨A3, c3, rfl, hc3⟩ := g3.own.slice
         have O3 := Lib.hid (OM.trans O2.out g3)
         have k3 := (HM.out w3 O3.out.fr).1
         clear g3
         dsimp only)))
    rename_i hHeld
    clear hHeld
    obtain ⟨_, _, n2⟩ := HM.out w3 O3.out.fr
    have hb3 := O3.out.below HOB.out (show base ≤ w1.heap.size by omega)
    have hcv := (HD.out.below hb3 hB).conv dc
    have hl2 := tx_len (s := nm) (by omega)
    have kb := text_om (base := 0) O3.out.own (baL d) (by rw [ba_size]; omega) (by omega)
    rw [show (⟨d.toArray⟩ : ByteArray) = baL d from rfl] at hcv
    obtain ⟨tb, htb⟩ : ∃ tb, tb = baL d := ⟨_, rfl⟩
    rw [← htb] at hcv kb
    have HTB := Lib.hid htb
    have KC := Lib.hid kb
    clear hb3 kb htb m0 m1 m2 k2 k3
    go_wp2_with (go_at_call 59; go_loud (
         refine KC.out.mono ?_
         rintro e w4 ⟨v4, rfl, g4⟩
         have O4 := Lib.hid (OM.trans O3.out g4)
         clear g4))
    go_ret
    refine ⟨_, rfl, ?_⟩
    have h := OM.trans O0.out O4.out
    rw [chB_false, List.length_append, List.length_append, ← HQ.out, ← HTB.out, ← List.append_assoc, ← List.append_assoc, ← Nat.add_assoc, ← Nat.add_assoc]
    exact h
end Go.Proofs.Ytolkghdeppoanaa.SfC
