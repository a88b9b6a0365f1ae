/-
  Files that a law gathers: those of a rack, and changes' data of the law's own arguments.
-/
import Derived.Test.YtolkghdeppoanaaSwL
import Derived.Test.YtolkghdeppoanaaSwS
import Derived.Test.YtolkghdeppoanaaSwF
import Derived.Test.YtolkghdeppoanaaSwR
set_option linter.unusedVariables false
set_option linter.unusedSimpArgs false
namespace Go.Proofs.Ytolkghdeppoanaa.SwW
open Go.RowKit Go.Proofs.Ytolkghdeppoanaa.BxD Go.Proofs.Ytolkghdeppoanaa.BxKit Go.Proofs.Ytolkghdeppoanaa.PkKit Go.Proofs.Ytolkghdeppoanaa.RkO Go.Proofs.Ytolkghdeppoanaa.RkC Go.Proofs.Ytolkghdeppoanaa.RkD Go.Proofs.Ytolkghdeppoanaa.RkR Go.Proofs.Ytolkghdeppoanaa.RkK Go.Proofs.Ytolkghdeppoanaa.RkP Go.Proofs.Ytolkghdeppoanaa.RkE Go.Proofs.Ytolkghdeppoanaa.RkM Go.Proofs.Ytolkghdeppoanaa.RkN Go.Proofs.Ytolkghdeppoanaa.SfB Go.Proofs.Ytolkghdeppoanaa.SfC Go.Proofs.Ytolkghdeppoanaa.SfD Go.Proofs.Ytolkghdeppoanaa.SfK Go.Proofs.Ytolkghdeppoanaa.SfO Go.Proofs.Ytolkghdeppoanaa.SfP Go.Proofs.Ytolkghdeppoanaa.SfT Go.Proofs.Ytolkghdeppoanaa.SfU Go.Proofs.Ytolkghdeppoanaa.SfV Go.Proofs.Ytolkghdeppoanaa.SwL Go.Proofs.Ytolkghdeppoanaa.SwS Go.Proofs.Ytolkghdeppoanaa.SwR

/-! ## Pure -/
theorem all_state {A : List F} {R : Nat} {s : St} {l : List Ch} {p1 p2 : List UInt8} {f : Option Nat} (h : Cl A R s) (k : Fk A) (hf : fitE s l = 0) :
    ∃ D, (D = A ∨ D = dall A l) ∧ (comE s l = 0 → D = dall A l) ∧ (comE s l = 0 ∨ comE s l = 5) ∧ (opE (fuS (crS (comS s l) p1) f) = 0 ∨ opE (fuS (crS (comS s l) p1) f) = 5) ∧
      (∀ b, rdF (fuS (crS (comS s l) p1) f) nR = some b → b.length ≤ 1000000000 ∧ (parse b).1.length ≤ l.length) ∧
      (∀ b, rdF (crS (opS (fuS (crS (comS s l) p1) f)) p2) nR = some b → b.length ≤ 1000000000 ∧ (parse b).1.length ≤ l.length) ∧
      opE (crS (opS (fuS (crS (comS s l) p1) f)) p2) = 0 ∧ Cl D R (opS (crS (opS (fuS (crS (comS s l) p1) f)) p2)) := by
  have C := cx_of h k hf
  have kD := SfV.Cx.all C
  have clean : ∀ {D : List F}, Fk D → Cl D R (crS (comS s l) p1) → opE (fuS (crS (comS s l) p1) f) = 0 ∧
      (∀ b, rdF (fuS (crS (comS s l) p1) f) nR = some b → b.length ≤ 1000000000 ∧ (parse b).1.length ≤ l.length) ∧
      (∀ b, rdF (crS (opS (fuS (crS (comS s l) p1) f)) p2) nR = some b → b.length ≤ 1000000000 ∧ (parse b).1.length ≤ l.length) ∧
      opE (crS (opS (fuS (crS (comS s l) p1) f)) p2) = 0 ∧ Cl D R (opS (crS (opS (fuS (crS (comS s l) p1) f)) p2)) := by
    intro D k g1
    have g2 := SfV.Cl.fu g1 f
    obtain ⟨o1, o2, _⟩ := op_cl g2 k
    rw [o2]
    obtain ⟨g3, _⟩ := cl_crash g2 p2
    obtain ⟨o3, o4, _⟩ := op_cl g3 k
    exact ⟨o1, op_few_cl g2 k, op_few_cl g3 k, o3, by rw [o4]; exact g3⟩
  rcases com_any h k hf with ⟨h1, h2, _⟩ | ⟨h1, _, h2 | h2⟩
  · obtain ⟨g1, _⟩ := cl_crash h2 p1
    obtain ⟨a1, a2, a3, a4, a5⟩ := clean kD g1
    exact ⟨_, .inr rfl, fun _ => rfl, .inl h1, .inl a1, a2, a3, a4, a5⟩
  · obtain ⟨g1, g2, _⟩ := ph_crash C h2 p1
    have g3 := SfV.Ph.fu g1 f
    have fw := op_few_ph C g3 g2 (Nat.le_refl _)
    rcases op_ph C g3 g2 with ⟨o1, o2, _⟩ | ⟨o1, o2, _⟩
    · obtain ⟨e1, e2, e3⟩ := ph_crash C o2 p2
      rcases op_ph C e1 e2 with ⟨_, _, x⟩ | ⟨x1, x2, _⟩
      · exact absurd e3 x
      · exact ⟨_, .inr rfl, fun _ => rfl, .inr h1, .inr o1, fw, op_few_ph C e1 e2 (Nat.le_refl _), x1, x2⟩
    · obtain ⟨e1, _⟩ := cl_crash o2 p2
      obtain ⟨x1, x2, _⟩ := op_cl e1 kD
      exact ⟨_, .inr rfl, fun _ => rfl, .inr h1, .inl o1, fw, op_few_cl e1 kD, x1, by rw [x2]; exact e1⟩
  · obtain ⟨g1, _⟩ := no_crash h2 p1
    obtain ⟨a1, a2, a3, a4, a5⟩ := clean k g1
    exact ⟨_, .inl rfl, fun e => absurd (h1.symm.trans e) (by decide), .inr h1, .inl a1, a2, a3, a4, a5⟩
/-- A file less, element by element. -/
def flt (n : ByteArray) (l : List F) : List F := l.filter fun f => !decide (f.1 = n)
theorem flt_cut {n : ByteArray} {l : List F} (hs : SrtF l) : flt n l = cutF n l := by
  refine sorted_ext (List.Pairwise.filter _ hs) (srt_done hs ⟨n, true, []⟩) fun x => ?_
  show _ ↔ x ∈ cutF n l
  rw [mem_cutF hs]
  unfold flt
  simp [List.mem_filter]
theorem srt_cut {n : ByteArray} {l : List F} (hs : SrtF l) : SrtF (cutF n l) := srt_done hs ⟨n, true, []⟩
theorem put_cut {n : ByteArray} {d : List UInt8} {l : List F} (hs : SrtF l) : putF n d (cutF n l) = putF n d l := by
  refine sorted_ext (srt_put ordS (srt_cut hs)) (srt_put ordS hs) fun x => ?_
  rw [mem_putF (srt_cut hs), mem_putF hs, mem_cutF hs]
  constructor
  · rintro (⟨⟨h1, h2⟩, _⟩ | h)
    · exact .inl ⟨h1, h2⟩
    · exact .inr h
  · rintro (⟨h1, h2⟩ | h)
    · exact .inl ⟨⟨h1, h2⟩, h2⟩
    · exact .inr h
/-- The place found, the file put in there. -/
theorem put_at {n : ByteArray} {d : List UInt8} {l D : List F} {q : Nat} (hs : SrtF D) (hl : l = cutF n D) (hq : q ≤ l.length) (h1 : ∀ (j : Nat) (x : F), j < q → l[j]? = some x → cmpS x.1 n < 0) (h2 : ∀ x, l[q]? = some x → ¬ cmpS x.1 n < 0) : l.take q ++ (n, d) :: l.drop q = putF n d D := by
  rw [← put_cut hs, ← hl]
  have hlo : lo cmpS n l = q := lo_eq cmpS n l q hq h1 h2
  have hh : hit cmpS n l = false := by
    cases hb : hit cmpS n l with
    | false => rfl
    | true =>
      obtain ⟨v, hv⟩ := (hit_iff ordS).1 hb
      have hm := List.mem_of_getElem? hv
      rw [hl, mem_cutF hs] at hm
      exact absurd rfl hm.2
  unfold putF RkO.put
  rw [hh, if_neg (by decide)]
  unfold ins
  rw [hlo]
/-! ## Memory -/
/-- Data that stays: bytes of a rack's, or what lay below base. -/
def DatW (w : World) (base : Nat) (A : Option Addr) (n : Nat) (d : List UInt8) : Prop :=
  d.length = n ∧ (0 < n → ∃ ad, A = some ad ∧ (KeepU w ad.block ∨ ad.block < base) ∧ ∀ j c, d[j]? = some c → w.cell? (ad.add j) = some (.int .u8 (c.toNat : Int)))
def DW (w : World) (base : Nat) (r : RF) : Prop := DatW w base r.2.A r.2.d.length r.2.d ∧ r.2.d.length ≤ r.2.c
def Kw (base : Nat) (w w' : World) : Prop := Kp w w' ∧ ∀ k, k < base → w'.heap[k]? = w.heap[k]?
section
variable {w w' : World} {base n : Nat} {A : Option Addr} {d : List UInt8} {rs : List RF} {r : RF}
theorem Kw.below (h : Below w.heap.size w w') (hb : base ≤ w.heap.size) : Kw base w w' := ⟨Kp.below h (Nat.le_refl _), fun k hk => h.block k (by omega)⟩
theorem Kw.trans {a b c : World} (h : Kw base a b) (k : Kw base b c) : Kw base a c := ⟨h.1.trans k.1, fun i hi => (k.2 i hi).trans (h.2 i hi)⟩
theorem Kw.fq {T lo hi k : Nat} {s : St} (h : Rx base T lo hi k w s) (hf : Fq base T lo hi w w') : Kw base w w' := ⟨h.kp hf, (hf.to h.bs).block⟩
theorem DatW.kw (h : DatW w base A n d) (hk : Kw base w w') : DatW w' base A n d := by
  refine ⟨h.1, fun hn => ?_⟩
  obtain ⟨ad, e, hb, hc⟩ := h.2 hn
  have hbb : w'.heap[ad.block]? = w.heap[ad.block]? := by
    rcases hb with hb | hb
    · exact hk.1 _ hb.t
    · exact hk.2 _ hb
  exact ⟨ad, e, hb.imp (fun h => h.ku hk.1.ku) id, fun j c hj => (World.cell?_of_block (by rw [BxKit.add_block]; exact hbb)).trans (hc j c hj)⟩
theorem DatW.at_ (h : DatW w base A n d) (hb : base ≤ w.heap.size) : BytesAt w w.heap.size A n d := by
  refine ⟨h.1, fun hn => ?_⟩
  obtain ⟨ad, e, hp, hc⟩ := h.2 hn
  exact ⟨ad, e, by rcases hp with hp | hp; exact hp.lt; omega, hc⟩
theorem DatW.of (h : ByT w A n d) : DatW w base A n d := by
  refine ⟨h.1, fun hn => ?_⟩
  obtain ⟨ad, e, hp, hc⟩ := h.2 hn
  exact ⟨ad, e, .inl hp, hc⟩
theorem DatW.arg (h : byP w base 0 0 A n d) : DatW w base A n d := by
  refine ⟨h.1, fun hn => ?_⟩
  obtain ⟨ad, e, hp, hc⟩ := h.2 hn
  exact ⟨ad, e, .inr (by unfold Pb at hp; omega), hc⟩
theorem DW.kw (h : DW w base r) (hk : Kw base w w') : DW w' base r := ⟨h.1.kw hk, h.2⟩
/-- Files that a law gathered. -/
def FWr (w : World) (base : Nat) (A : Option Addr) (n : Nat) (rs : List RF) : Prop :=
  rs.length = n ∧ (∀ r ∈ rs, DW w base r) ∧ (0 < n → ∃ ad, A = some ad ∧ KeepT w ad.block ∧ ∀ j u, (fc rs)[j]? = some u → w.cell? (ad.add j) = some u)
theorem FWr.kw (h : FWr w base A n rs) (hk : Kw base w w') : FWr w' base A n rs := by
  refine ⟨h.1, fun r hr => (h.2.1 r hr).kw hk, fun hn => ?_⟩
  obtain ⟨ad, e, ht, hc⟩ := h.2.2 hn
  exact ⟨ad, e, ht.kp hk.1, fun j u hj => (World.cell?_of_block (by rw [BxKit.add_block]; exact hk.1 _ ht)).trans (hc j u hj)⟩
theorem FWr.of (h : FilesR w A n rs) : FWr w base A n rs := ⟨h.1, fun r hr => ⟨.of (h.2.1 r hr).1, (h.2.1 r hr).2⟩, h.2.2⟩
theorem FWr.src (h : FWr w base A n rs) : Src w A n 2 (fc rs) := by
  refine ⟨by rw [fc_length, h.1], fc_one rs, fun hn => ?_⟩
  obtain ⟨ad, e, _, hc⟩ := h.2.2 hn
  exact ⟨ad, e, hc⟩
theorem FWr.own {B cp : Nat} (h : w.ownsRow B 44 2 (.slice A n cp) n (fc rs)) (hd : ∀ r ∈ rs, DW w base r) : FWr w base A n rs := by
  have hl := h.1
  rw [fc_length] at hl
  refine ⟨by omega, hd, fun hn => ?_⟩
  rcases h.2 with ⟨hv, rfl⟩ | ⟨g, cap, cur, hv, hb, hg, hnc, hm, hs, ht⟩
  · omega
  · have hA : A = some ⟨g, 0, none⟩ := by injection hv
    subst hA
    exact ⟨_, rfl, ⟨_, _, _, hg, .inl rfl⟩, fun j u hj => h.cells (g := g) rfl _ _ hj⟩
theorem FWr.take (h : FWr w base A n rs) {k : Nat} (hk : k ≤ n) : FWr w base A k (rs.take k) := by
  refine ⟨by rw [List.length_take, h.1]; omega, fun r hr => h.2.1 r (List.mem_of_mem_take hr), fun hn => ?_⟩
  obtain ⟨ad, rfl, ht, hc⟩ := h.2.2 (by omega)
  refine ⟨ad, rfl, ht, fun j u hj => hc j u ?_⟩
  rw [fc_take, List.getElem?_take] at hj
  split at hj
  · exact hj
  · cases hj
theorem FWr.cut (h : FWr w base A n rs) {k cp : Nat} (hk : k ≤ n) (hc : n ≤ cp) : FWr w base (if cp = k then A else A.map (·.add (k * 2))) (n - k) (rs.drop k) := by
  refine ⟨by rw [List.length_drop, h.1], fun r hr => h.2.1 r (List.mem_of_mem_drop hr), fun hn => ?_⟩
  obtain ⟨ad, rfl, ht, hcell⟩ := h.2.2 (by omega)
  rw [if_neg (by omega)]
  refine ⟨ad.add (k * 2), rfl, by rw [BxKit.add_block]; exact ht, fun j u hj => ?_⟩
  rw [BxKit.add_add]
  exact hcell _ u (by rw [← hj, fc_drop, List.getElem?_drop])
theorem FWr.cut_lo {cp i : Nat} (h : FWr w base A n rs) (hi : i ≤ n) (hn : n ≤ cp) :
    ∃ A2 n2 c2, (∀ w, (Instr.slice 38 (.slice A n cp) (some (.int .i64 (i : Int))) none none).run Try.prog w = .ok (.slice A2 n2 c2) w) ∧ n2 + i = n ∧ FWr w base A2 n2 (rs.drop i) :=
  ⟨_, _, _, sl_lo A n cp i hi hn _ rfl, by omega, h.cut hi hn⟩
theorem FWr.sp (h : FWr w base A n rs) (hk : Kw base w w') {j : Nat} (hj : j < n) :
    ∃ ad x K kd kc, A = some ad ∧ rs[j]? = some (x, ⟨K, kc, kd⟩) ∧ w'.cell? (ad.add (j * 2)) = some (.string x) ∧ w'.cell? { block := (ad.add (j * 2)).block, off := (ad.add (j * 2)).off + 1 } = some (.slice K kd.length kc) ∧
      kd.length ≤ kc ∧ DatW w' base K kd.length kd := by
  have h' := h.kw hk
  obtain ⟨ad, e, ht, hc⟩ := h'.2.2 (by omega)
  have hl := h'.1
  have hg : rs[j]? = some (rs[j]'(by omega)) := List.getElem?_eq_getElem (by omega)
  have h0 := fc_get rs j 0 _ hg (by decide)
  have h1 := fc_get rs j 1 _ hg (by decide)
  have hd := h'.2.1 _ (List.mem_of_getElem? hg)
  rcases hx : rs[j]'(by omega) with ⟨x, K, kc, kd⟩
  rw [hx] at hg h0 h1 hd
  refine ⟨ad, x, K, kd, kc, e, hg, ?_, ?_, hd.2, hd.1⟩
  · exact hc (j * 2) _ (by rw [← Nat.add_zero (j * 2), h0]; rfl)
  · have h2 := hc (j * 2 + 1) _ (by rw [h1]; rfl)
    rw [← BxKit.add_add] at h2
    rw [show ∀ q : Addr, q.add 1 = { block := q.block, off := q.off + 1 } from fun q => by unfold Addr.add; simp] at h2
    exact h2
end
def FWt (w : World) (base : Nat) (A : Option Addr) (n : Nat) (l : List F) : Prop := ∃ rs : List RF, rs.map fOf = l ∧ FWr w base A n rs
section
variable {w w' : World} {base n : Nat} {A : Option Addr} {l : List F}
theorem FWt.of (h : FilesT w A n l) : FWt w base A n l := by obtain ⟨rs, e, h⟩ := h; exact ⟨rs, e, .of h⟩
theorem FWt.kw (h : FWt w base A n l) (hk : Kw base w w') : FWt w' base A n l := by obtain ⟨rs, e, h⟩ := h; exact ⟨rs, e, h.kw hk⟩
theorem FWt.len (h : FWt w base A n l) : l.length = n := by obtain ⟨rs, rfl, h⟩ := h; rw [List.length_map, h.1]
theorem FWt.sp (h : FWt w base A n l) (hk : Kw base w w') {j : Nat} (hj : j < n) :
    ∃ ad x K kd kc, A = some ad ∧ l[j]? = some (x, kd) ∧ w'.cell? (ad.add (j * 2)) = some (.string x) ∧ w'.cell? { block := (ad.add (j * 2)).block, off := (ad.add (j * 2)).off + 1 } = some (.slice K kd.length kc) ∧
      kd.length ≤ kc ∧ DatW w' base K kd.length kd := by
  obtain ⟨rs, rfl, h⟩ := h
  obtain ⟨ad, x, K, kd, kc, h1, h2, h3⟩ := h.sp hk hj
  exact ⟨ad, x, K, kd, kc, h1, by rw [List.getElem?_map, h2]; rfl, h3⟩
end
set_option maxHeartbeats 4000000 in
set_option maxRecDepth 100000 in
theorem same_filesW {w : World} {base : Nat} {A1 A2 : Option Addr} {n1 n2 c1 c2 : Nat} {a b : List F} (h1 : FilesT w A1 n1 a) (h2 : FWt w base A2 n2 b) (hbs : base ≤ w.heap.size) (hn : n1 ≤ 100000) :
    Calls Try.prog 21 #[.slice A1 n1 c1, .slice A2 n2 c2] w fun e w' => e = .returned (.bool (decide (a = b))) ∧ Below w.heap.size w w' := by
  have HA := Lib.hid h1
  have HB := Lib.hid h2
  have la := h1.len
  have lb := h2.len
  by_cases hne : n1 = n2
  · subst hne
    have LA := Lib.hid la
    have LB := Lib.hid lb
    clear h1 h2 la lb
    go_enter Try.func21, Try.ntmps21
    go_wp2_with fail
    go_loopw [13] (fun s13 wr => ∃ k : Nat, k ≤ n1 ∧ s13 = .int .i64 k ∧ Hid (∀ (i : Nat) (x y : F), i < k → a[i]? = some x → b[i]? = some y → x = y) ∧ Hid (Below w.heap.size w wr)) (fun s13 _ => n1 - (intOf s13).toNat)
    case atStart => exact ⟨0, Nat.zero_le _, rfl, fun i x y h => absurd h (Nat.not_lt_zero i), Below.refl _ _⟩
    case round =>
      obtain ⟨k, hk, rfl, HE, HW⟩ := hrel
      by_cases hlt : k < n1
      · obtain ⟨ad, x, K, kd, kc, rfl, hp, d1, d2, hle, hby⟩ := HA.out.sp (Kp.below HW.out (Nat.le_refl _)) hlt
        obtain ⟨ad', x', K', kd', kc', rfl, hp', d1', d2', hle', hby'⟩ := HB.out.sp (Kw.below HW.out hbs) hlt
        have hk1 : (k : Int) < (n1 : Int) := by omega
        have hk0 : (0 : Int) ≤ (k : Int) := by omega
        by_cases hx : x = x'
        · subst hx
          have hcv := fun nq => PkKit.BytesAt.conv (w := wr.drewN nq) (hby.at_.below (BxKit.below_drewN (Below.refl _ _) nq) (Nat.le_refl _)) kc
          have hcv' := fun nq => PkKit.BytesAt.conv (w := wr.drewN nq) ((hby'.at_ (Nat.le_trans hbs HW.out.size)).below (BxKit.below_drewN (Below.refl _ _) nq) (Nat.le_refl _)) kc'
          obtain ⟨m, hm⟩ : ∃ m, m = kd.length := ⟨_, rfl⟩
          obtain ⟨m', hm'⟩ : ∃ m', m' = kd'.length := ⟨_, rfl⟩
          rw [← hm] at hcv d2
          rw [← hm'] at hcv' d2'
          obtain ⟨X, hX⟩ : ∃ X : ByteArray, X = ⟨kd.toArray⟩ := ⟨_, rfl⟩
          obtain ⟨X', hX'⟩ : ∃ X' : ByteArray, X' = ⟨kd'.toArray⟩ := ⟨_, rfl⟩
          rw [← hX] at hcv
          rw [← hX'] at hcv'
          have hxx : (x.toList == x.toList) = true := by simp
          by_cases hkk : kd = kd'
          · have hXX : (X.toList == X'.toList) = true := by rw [hX, hX', hkk]; simp
            have HE2 : Hid (∀ (i : Nat) (x y : F), i < k + 1 → a[i]? = some x → b[i]? = some y → x = y) := by
              intro i u v hi hu hv
              rcases Nat.lt_or_ge i k with h | h
              · exact HE.out i u v h hu hv
              · obtain rfl : i = k := by omega
                rw [hp] at hu
                rw [hp'] at hv
                rw [← Option.some.inj hu, ← Option.some.inj hv, hkk]
            clear hm hm' hX hX' hkk hp hp'
            go_upto_region 6 with fail
            go_quiet (fail)
            go_wp2_with fail
            go_roundw
            case measure => simp [intOf]; omega
            case rel => exact ⟨k + 1, by omega, by go_num, HE2, Lib.hid (HW.out.trans (BxKit.below_drewN (Below.refl _ _) _))⟩
          · have hXX : (X.toList == X'.toList) = false := by
              rw [hX, hX', ByteArray.toList_eq, ByteArray.toList_eq]; simpa using hkk
            have HN := Lib.hid (show decide (a = b) = false from decide_eq_false fun e => hkk (by rw [e, hp'] at hp; exact (congrArg Prod.snd (Option.some.inj hp)).symm))
            clear hm hm' hX hX' hp hp' hkk
            go_upto_region 6 with fail
            go_quiet (fail)
            go_wp2_with fail
            go_ret
            exact ⟨by rw [HN.out]; rfl, HW.out.trans (BxKit.below_drewN (Below.refl _ _) _)⟩
        · have hxx : (x.toList == x'.toList) = false := by
            cases h : (x.toList == x'.toList) with
            | false => rfl
            | true => exact absurd (ba_ext (by simpa using h)) hx
          have HN := Lib.hid (show decide (a = b) = false from decide_eq_false fun e => hx (by rw [e, hp'] at hp; exact (congrArg Prod.fst (Option.some.inj hp)).symm))
          clear hp hp' hx
          go_upto_region 6 with fail
          go_quiet (fail)
          go_wp2_with fail
          go_ret
          exact ⟨by rw [HN.out]; rfl, HW.out.trans (BxKit.below_drewN (Below.refl _ _) _)⟩
      · obtain rfl : k = n1 := by omega
        have HN := Lib.hid (show decide (a = b) = true from decide_eq_true (fext (by rw [LA.out, LB.out]) fun i x y hx hy => HE.out i x y (by have := (List.getElem?_eq_some_iff.1 hx).1; rw [LA.out] at this; exact this) hx hy))
        go_wp2_with fail
        go_ret
        exact ⟨by rw [HN.out]; rfl, HW.out⟩
  · have HN := Lib.hid (show decide (a = b) = false from decide_eq_false fun e => hne (by rw [← la, ← lb, e]))
    have hni : ((n1 : Int) == (n2 : Int)) = false := by rw [beq_eq_false_iff_ne]; omega
    clear h1 h2 la lb hne
    go_enter Try.func21, Try.ntmps21
    go_wp2_with fail
    go_ret
    exact ⟨by rw [HN.out]; rfl, Below.refl _ _⟩
end Go.Proofs.Ytolkghdeppoanaa.SwW
