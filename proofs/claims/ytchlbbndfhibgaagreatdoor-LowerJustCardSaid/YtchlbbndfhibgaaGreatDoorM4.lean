/-
  LwM + LwJust
-/
import Derived.Test.YtchlbbndfhibgaaGreatDoorM2
import Derived.Maps.Own
import Derived.Maps.OwnOps
import Derived.Maps.Views
import Derived.Test.YtchlbbndfhibgaaGreatDoorLwAw
import Derived.Test.YtchlbbndfhibgaaGreatDoorBxH
import Derived.Deep.RegionHeld3
import Derived.Deep.DeepCutAuto
set_option linter.unusedVariables false
set_option linter.unusedSimpArgs false
namespace Go.Proofs.YtchlbbndfhibgaaGreatDoor.LwM
open Go.RowKit Go.Maps

theorem law : Keyed Tryz.prog 3 := int_keyed Tryz.underlying3
theorem zeroE (w : World) : (zeroValue 3).run Tryz.prog w = .ok (.int .i64 0) w := by kernel_rfl
/-- The block B is a map of at most n entries that tells f u at u. -/
def MI (w : World) (B n : Nat) (f : Int → Int) : Prop :=
  ∃ D : DataW Unit, w.ownsMap Tryz.prog 3 (plainElem Tryz.prog 3) B n D ∧ IsMap D ∧ ∀ u, (Lit.int .i64 u).wf = true → D.atKey (.int .i64 u) (.lit (.int .i64 0)) = .lit (.int .i64 (f u))
section
variable {w w' : World} {B n : Nat} {f : Int → Int}
theorem MI.made (w : World) : MI (w.alloc (.map #[] 0)) w.heap.size 0 fun _ => 0 := ⟨_, World.ownsMap_made _ _ _ _, isMap_empty, fun _ _ => rfl⟩
theorem MI.lt (h : MI w B n f) : B < w.heap.size := by obtain ⟨D, h, _⟩ := h; exact h.lt
theorem MI.go (h : MI w B n f) (hb : Below w.heap.size w w') : MI w' B n f := by
  obtain ⟨D, h, h2⟩ := h
  exact ⟨D, h.kept ⟨hb.os, hb.tape, hb.output, hb.size, fun i hi _ => hb.block i hi⟩ (row := none) (by simp), h2⟩
theorem MI.more (h : MI w B n f) {m : Nat} (hm : n ≤ m) : MI w B m f := by
  obtain ⟨D, h, h2⟩ := h
  exact ⟨D, h.mono hm, h2⟩
theorem MI.alloc (h : MI w B n f) (o : Obj) : MI (w.alloc o) B n f := h.go ((Below.refl _ _).alloc (Nat.le_refl _) o)
set_option maxRecDepth 100000 in
theorem MI.look (h : MI w B n f) {u : Int} (hu : (Lit.int .i64 u).wf = true) : (Instr.lookup 59 (.map (some B)) (.int .i64 u) false).run Tryz.prog w = .ok (.int .i64 (f u)) w := by
  obtain ⟨D, h, _, h2⟩ := h
  obtain ⟨c, hrun, hat, _⟩ := h.lookup_int law Tryz.underlying59 Tryz.underlying3 (zeroE w) (keyOf_int_mk Tryz.underlying3 hu)
  rw [h2 u hu] at hat
  injection hat with hat
  injection hat with _ hat
  rw [hrun, hat]
set_option maxRecDepth 100000 in
theorem MI.put (h : MI w B n f) (hn : n < maxLen) {u x : Int} (hu : (Lit.int .i64 u).wf = true) (hx : (Lit.int .i64 x).wf = true) :
    ∃ w', (Instr.mapUpdate 59 (.map (some B)) (.int .i64 u) (.int .i64 x)).run Tryz.prog w = .ok () w' ∧ MI w' B (n + 1) (fun v => if v = u then x else f v) ∧ w.grownBy w' (some B) := by
  obtain ⟨D, h, h1, h2⟩ := h
  obtain ⟨w', hrun, r1, r2⟩ := h.update law Tryz.underlying59 hn (keyOf_int_mk Tryz.underlying3 hu) (plainElem_int Tryz.underlying3 hx)
  refine ⟨w', hrun, ⟨_, r1, h1.put _ _, fun v hv => ?_⟩, r2⟩
  by_cases e : v = u
  · subst e
    dsimp only
    rw [if_pos rfl]
    exact atKey_put_same (k := .int .i64 v) h1 (show WideAt.IsKeyLit (.int .i64 v) from trivial) _ _
  · dsimp only
    rw [if_neg e, atKey_put_other (fun h => by injection h with _ h; exact e h), h2 v hv]
theorem wf_small {u : Int} (h1 : -1000000000 ≤ u) (h2 : u ≤ 1000000000) : (Lit.int .i64 u).wf = true := by
  unfold Lit.wf
  simp [IntKind.min, IntKind.max, IntKind.signed, IntKind.bits]
  omega
/-- A store at the operation. -/
theorem wpList_put {ops : Array Oper} {rest : List Oper} {o : Oper} {a : Act} {Q : Exit → Act → World → Prop} (h : MI w B n f) (hg : o.guard = none) (m x v : Operand) (hop : o.op = Op.mapUpdate 59 m x v)
    (hm : a.eval m = .map (some B)) {u y : Int} (hx : a.eval x = .int .i64 u) (hv : a.eval v = .int .i64 y) (hn : n < maxLen) (hu : (Lit.int .i64 u).wf = true) (hy : (Lit.int .i64 y).wf = true)
    (hK : ∀ w', MI w' B (n + 1) (fun v => if v = u then y else f v) → w.grownBy w' (some B) → wpList Tryz.prog ops Q rest (a.put o.dst undef) w') : wpList Tryz.prog ops Q (o :: rest) a w := by
  refine wpList_plain hg fun K' hK' => ?_
  obtain ⟨w', hrun, r1, r2⟩ := h.put hn hu hy
  unfold Oper.wp
  simp [execOp, hop, hm, hx, hv, hrun, Result.andThen]
  exact hK' _ _ (hK w' r1 r2)
end
end Go.Proofs.YtchlbbndfhibgaaGreatDoor.LwM

namespace Go.Proofs.YtchlbbndfhibgaaGreatDoor.LwJust
open Go.RowKit Go.Proofs.YtchlbbndfhibgaaGreatDoor.BxD Go.Proofs.YtchlbbndfhibgaaGreatDoor.BxKit Go.Proofs.YtchlbbndfhibgaaGreatDoor.BxR Go.Proofs.YtchlbbndfhibgaaGreatDoor.BxC Go.Proofs.YtchlbbndfhibgaaGreatDoor.BxB Go.Proofs.YtchlbbndfhibgaaGreatDoor.BxH Go.Proofs.YtchlbbndfhibgaaGreatDoor.BxS Go.Proofs.YtchlbbndfhibgaaGreatDoor.BxX Go.Proofs.YtchlbbndfhibgaaGreatDoor.OlD Go.Proofs.YtchlbbndfhibgaaGreatDoor.PtK Go.Proofs.YtchlbbndfhibgaaGreatDoor.RwD Go.Proofs.YtchlbbndfhibgaaGreatDoor.RwKit Go.Proofs.YtchlbbndfhibgaaGreatDoor.RwRo Go.Proofs.YtchlbbndfhibgaaGreatDoor.ImD Go.Proofs.YtchlbbndfhibgaaGreatDoor.ImK Go.Proofs.YtchlbbndfhibgaaGreatDoor.ImA Go.Proofs.YtchlbbndfhibgaaGreatDoor.ImB Go.Proofs.YtchlbbndfhibgaaGreatDoor.ImP Go.Proofs.YtchlbbndfhibgaaGreatDoor.ImN Go.Proofs.YtchlbbndfhibgaaGreatDoor.ImL Go.Proofs.YtchlbbndfhibgaaGreatDoor.ImT Go.Proofs.YtchlbbndfhibgaaGreatDoor.LwD Go.Proofs.YtchlbbndfhibgaaGreatDoor.LwT Go.Proofs.YtchlbbndfhibgaaGreatDoor.LwL Go.Proofs.YtchlbbndfhibgaaGreatDoor.LwS
open Go.Proofs.YtchlbbndfhibgaaGreatDoor.PkKit (BytesAt)
open Go.Proofs.YtchlbbndfhibgaaGreatDoor.LwM

theorem form_k (x : Int) : ∃ k : Nat, (k = 1 ∨ k = 2 ∨ k = 3) ∧ wrap64 (1 + wrap64 ((IntKind.u64.wrap x).tmod 3)) = (k : Int) := by
  have h0 := wrap_u64_nonneg x
  generalize IntKind.u64.wrap x = y at h0
  have h1 : 0 ≤ y % 3 := Int.emod_nonneg _ (by decide)
  have h2 : y % 3 < 3 := Int.emod_lt_of_pos _ (by decide)
  rw [Int.tmod_eq_emod_of_nonneg h0]
  refine ⟨(1 + y % 3).toNat, by omega, ?_⟩
  unfold wrap64
  omega
theorem str_beq (a b : ByteArray) : (a.toList == b.toList) = decide (a = b) := by
  rw [ByteArray.toList_eq, ByteArray.toList_eq]
  by_cases h : a = b
  · subst h; rw [decide_eq_true rfl]; exact beq_self_eq_true _
  · rw [decide_eq_false h]
    exact beq_eq_false_iff_ne.2 fun e => h (ByteArray.ext (Array.toList_inj.1 e))
theorem int_beq (a b : Int) : (a == b) = decide (a = b) := by by_cases h : a = b <;> simp [h]
theorem nat_beq (a b : Nat) : ((a : Int) == (b : Int)) = decide (a = b) := by by_cases h : a = b <;> simp [h]; omega
theorem just_uid {b : Box} {i : Nat} {m : Msg} (h : mbE b = 0) (e : b.msgs[i]? = some m) : -1000000000 ≤ m.uid ∧ m.uid ≤ 1000000000 := by
  obtain ⟨p1, _⟩ := OlP.mm_parts ((OlP.good_of h).ms m (List.mem_of_getElem? e)).1
  omega
theorem just_count {f : Fm} {b p : Box} {i : Nat} {m q : Msg} (hp : p = pj f b) (h : mbE b = 0) (e1 : b.msgs[i]? = some m) (e2 : p.msgs[i]? = some q) :
    uN m.uid (ls f b) = (if decide (m.id = q.id) = true then 0 else 1) + (if decide (m.mod = q.mod) = true then 0 else 1) + (if decide (m.keys.length = q.keys.length) = true then 0 else 1) := by
  have hq : q = pmj f b.id m := by
    rw [hp] at e2
    unfold pj at e2
    simp only [List.getElem?_map, e1, Option.map_some] at e2
    exact (Option.some.inj e2).symm
  rw [ls_uid f (OlP.good_of h).ri (List.mem_of_getElem? e1), hq]
  unfold nOf one
  by_cases h1 : m.id = (pmj f b.id m).id <;> by_cases h2 : m.mod = (pmj f b.id m).mod <;> by_cases h3 : m.keys.length = (pmj f b.id m).keys.length <;> simp [h1, h2, h3]
theorem uN_out {v : Int} {x : Los} (h : x.kind = 4 ∨ x.kind = 7 ∨ x.uid ≠ v) : uN v [x] = 0 := by
  unfold uN
  rw [List.filter_cons, if_neg (by rw [decide_eq_true_eq]; rintro ⟨h1, h2, h3⟩; rcases h with h | h | h <;> contradiction)]
  rfl
theorem uN_in {v : Int} {x : Los} (h1 : x.kind ≠ 4) (h2 : x.kind ≠ 7) (h3 : x.uid = v) : uN v [x] = 1 := by
  unfold uN
  rw [List.filter_cons, if_pos (by rw [decide_eq_true_eq]; exact ⟨h1, h2, h3⟩)]
  rfl
theorem kN_out {c : Int} {x : Los} (h : x.kind ≠ c) : kN c [x] = 0 := by
  unfold kN
  rw [List.filter_cons, if_neg (by rw [decide_eq_true_eq]; exact h)]
  rfl
theorem meas {j n : Nat} (h : j < n) : n - (intOf (Value.int .i64 ((j : Int) + 1))).toNat < n - (intOf (Value.int .i64 (j : Int))).toNat := by simp [intOf]; omega
theorem wrap_cnt {c : Nat} (h : c ≤ 306) : wrap64 ((c : Int) + 1) = (c : Int) + 1 := by unfold wrap64; omega
theorem wf_cnt {c : Nat} (h : c ≤ 306) : (Lit.int .i64 ((c : Int) + 1)).wf = true := wf_small (by omega) (by omega)
theorem text_ne {x : Los} (h : x.kind = 2 ∨ x.kind = 4 ∨ x.kind = 5 ∨ x.kind = 6 ∨ x.kind = 7) : (textL x).toList.isEmpty = false := by
  have hz : (textL x).size ≠ 0 := by
    unfold textL msgT
    rcases h with h | h | h | h | h <;> rw [h] <;> simp [ByteArray.size_append] <;> intro h0 <;> exact absurd h0 (by decide)
  rw [ByteArray.toList_eq]
  have hd : (textL x).data.toList.length ≠ 0 := by rw [Array.length_toList]; exact hz
  generalize (textL x).data.toList = l at hd
  cases l with
  | nil => exact absurd rfl hd
  | cons a r => rfl
set_option maxHeartbeats 8000000 in
set_option maxRecDepth 100000 in
theorem walk {b : Box} {WA MA : Option Addr} {wn wcp mn mcp : Nat} {x : Int} {w : World} (ht : BxO.Tab w) (h1 : StrsAt w w.heap.size WA wn b.words) (h2 : MsgsAt w w.heap.size MA mn b.msgs) (hwc : wn ≤ wcp) (hmc : mn ≤ mcp) (z1 : b.id.size ≤ 140737488355328) :
    Calls Tryz.prog 5 #[.int .i64 x, .agg #[.string b.id, .int .i64 b.valid, .int .i64 b.next, .int .i64 b.high, .slice WA wn wcp, .slice MA mn mcp]] w fun e w' => e = .returned (.bool true) ∧ Below w.heap.size w w' := by
  have KH := fun o => heavy_any (bid := b.id) (bv := b.valid) (bn := b.next) (bh := b.high) (wc := wcp) (mc := mcp) (StrsAt.below h1 ((Below.refl _ w).alloc (Nat.le_refl _) o) (Nat.le_refl _)) (MsgsAt.below h2 ((Below.refl _ w).alloc (Nat.le_refl _) o) (Nat.le_refl _)) (by simp) (by simp) z1
  have KM := fun (wr : World) (h : After w (.cells #[.string b.id, .int .i64 b.valid, .int .i64 b.next, .int .i64 b.high, .slice WA wn wcp, .slice MA mn mcp] 25) wr) => ref_may (bid := b.id) (bv := b.valid) (bn := b.next) (bh := b.high) (wc := wcp) (mc := mcp) (StrsAt.below h1 h.below (Nat.le_refl _)) (MsgsAt.below h2 h.below (Nat.le_refl _)) h.below.size hwc
  have HAW := Lib.hid (fun (wr : World) (hb : Below w.heap.size w wr) => LwAw.awake (ht.below hb (Nat.le_refl _)))
  have HS := Lib.hid (After.start w (.cells #[.string b.id, .int .i64 b.valid, .int .i64 b.next, .int .i64 b.high, .slice WA wn wcp, .slice MA mn mcp] 25))
  have HX := Lib.hid h1
  have HM := Lib.hid h2
  have HT := Lib.hid ht
  have HWC := Lib.hid hwc
  have HMC := Lib.hid hmc
  clear h1 h2 ht hwc hmc
  rcases hv_or b.id b.words b.msgs with hh | ⟨hh, _, _, _⟩
  · simp only [hh] at KH
    have K1 := Lib.hid KH
    clear KH hh KM
    have hmm := @run_makeMap Tryz.prog
    go_enter Tryz.func5, Tryz.ntmps5
    go_wp2_with fail
    refine (K1.out _).mono ?_
    rintro e w1 ⟨rfl, hb1⟩
    have HB := Lib.hid (HS.out.go hb1).below
    clear hb1
    go_wp2_with (go_at_call 22; refine (HAW.out _ HB.out).mono ?_; rintro e w9 ⟨rfl, hb9⟩)
    go_ret
    exact ⟨rfl, (HB.out).trans (hb9.mono (HB.out).size)⟩
  simp only [hh] at KH
  have K1 := Lib.hid KH
  clear KH hh
  obtain ⟨em, hem⟩ : ∃ em, em = mbE b := ⟨_, rfl⟩
  simp only [show mbE ⟨b.id, b.valid, b.next, b.high, b.words, b.msgs⟩ = mbE b from rfl, ← hem] at KM
  have K2 := Lib.hid KM
  clear KM
  by_cases he : em = 0
  case neg =>
    have hne : (em != 0) = true := by simpa using he
    clear he hem
    have hmm := @run_makeMap Tryz.prog
    go_enter Tryz.func5, Tryz.ntmps5
    go_wp2_with fail
    refine (K1.out _).mono ?_
    rintro e w1 ⟨rfl, hb1⟩
    have HB := Lib.hid (HS.out.go hb1)
    obtain ⟨b0, b1, b2, b3, b4, b5⟩ := HB.out.box
    clear hb1
    go_wp2_with fail
    refine (K2.out _ HB.out).mono ?_
    rintro e w2 ⟨rfl, hb2⟩
    have HB2 := Lib.hid (HB.out.go hb2).below
    clear hb2
    go_wp2_with (go_at_call 22; refine (HAW.out _ HB2.out).mono ?_; rintro e w9 ⟨rfl, hb9⟩)
    go_ret
    exact ⟨rfl, (HB2.out).trans (hb9.mono (HB2.out).size)⟩
  subst he
  have HE := Lib.hid hem.symm
  clear hem
  have hmm := @run_makeMap Tryz.prog
  go_enter Tryz.func5, Tryz.ntmps5
  go_wp2_with fail
  refine (K1.out _).mono ?_
  rintro e w1 ⟨rfl, hb1⟩
  have HB := Lib.hid (HS.out.go hb1)
  obtain ⟨b0, b1, b2, b3, b4, b5⟩ := HB.out.box
  clear hb1 K1 HS
  go_upto_region 3 with (go_at_call 11; go_loud (
     refine (K2.out _ HB.out).mono ?_
     rintro e w2 ⟨rfl, hb2⟩
     have HB2 := Lib.hid (HB.out.go hb2)
     clear hb2 b0 b1 b2 b3 b4 b5))
  obtain ⟨b0, b1, b2, b3, b4, b5⟩ := HB2.out.box
  clear K2 HB
  clear b0 b1 b2 b3 b4 b5
  have SB := Lib.hid (show Sb w w2 w.heap.size b WA wn wcp MA mn mcp from Sb.first rfl HB2.out HX.out HM.out HWC.out HMC.out)
  clear HB2
  obtain ⟨b0, b1, b2, b3, b4, b5, _⟩ := six_at SB.out.blk
  go_upto_region 4 with fail
  obtain ⟨k, hk3, hk⟩ := form_k x
  rw [hk]
  have HK3 := Lib.hid hk3
  clear hk hk3 b0 b1 b2 b3 b4 b5
  obtain ⟨p, hnm⟩ : ∃ p, p = pj (fmI k) b := ⟨_, rfl⟩
  have kp := project_sb (k := k) HK3.out (HT.out.below SB.out.bel (Nat.le_refl _)) SB.out HE.out
  rw [← hnm] at kp
  have KP := Lib.hid (show Calls Tryz.prog 23 #[.int .i64 (k : Nat), .agg #[.string b.id, .int .i64 b.valid, .int .i64 b.next, .int .i64 b.high, .slice WA wn wcp, .slice MA mn mcp]] w2 (BoxOut p 0 w2) from kp)
  have HNp := Lib.hid hnm
  clear kp hnm
  obtain ⟨b0, b1, b2, b3, b4, b5, _⟩ := six_at SB.out.blk
  go_upto_region 5 with (go_at_call 23; go_loud (
     refine KP.out.mono ?_
     rintro e w3 ⟨CA2, cn2, cc2, NA2, nn2, nc2, rfl, hcc, hnc, hl, hb⟩
     have hb0 := SB.out.bel.trans (hb.mono SB.out.bel.size)
     have S1 := Lib.hid (Sb.new (w := w) (c := p) hb0 hb.size hcc hnc hl)
     have hbx := hb.alloc hb.size (.cells #[.string p.id, .int .i64 p.valid, .int .i64 p.next, .int .i64 p.high, .slice CA2 cn2 cc2, .slice NA2 nn2 nc2] 25)
     have SB := Lib.hid (SB.out.go hbx)
     clear hcc hnc hl hb hb0 hbx b0 b1 b2 b3 b4 b5))
  clear KP
  obtain ⟨Q2, hQ⟩ : ∃ Q, Q = w3.heap.size := ⟨_, rfl⟩
  rw [← hQ] at S1 ⊢
  clear hQ
  generalize (World.alloc w3 _) = w4 at S1 SB ⊢
  have HE1 := Lib.hid (show mbE p = 0 by rw [HNp.out]; exact pj_may (fmI_is k) HE.out)
  have KP := Lib.hid (show Calls Tryz.prog 25 #[.int .i64 (k : Nat), .agg #[.string b.id, .int .i64 b.valid, .int .i64 b.next, .int .i64 b.high, .slice WA wn wcp, .slice MA mn mcp]] w4 (LosOut _ 0 w4) from losses_sb (k := k) HK3.out (HT.out.below SB.out.bel (Nat.le_refl _)) SB.out HE.out)
  obtain ⟨b0, b1, b2, b3, b4, b5, _⟩ := six_at SB.out.blk
  go_upto_region 6 with (go_at_call 25; go_loud (
     refine KP.out.mono ?_
     rintro e w5 ⟨LA4, ln4, lc4, rfl, hcc, hl, hb⟩
     have L1 := Lib.hid (Lk.mk hcc hl)
     have SB := Lib.hid (SB.out.go hb)
     have S1 := Lib.hid (S1.out.go hb)
     clear hcc hl hb b0 b1 b2 b3 b4 b5))
  clear KP
  have hlm : mn = nn2 := by
    have h1 := SB.out.ms.len
    have h2 := S1.out.ms.len
    have h3 : p.msgs.length = b.msgs.length := by rw [HNp.out]; unfold pj; simp
    omega
  subst hlm
  have hsm := same_sb S1.out SB.out
  obtain ⟨sm, hsm0⟩ : ∃ sm, sm = eqX p b := ⟨_, rfl⟩
  have hsm1 : ((ln4 : Int) == 0) = sm := by
    have h1 := L1.out.len
    have h2 := ls_nil (fmI_is k) HE.out
    rw [hsm0]
    unfold eqX
    by_cases hl : ls (fmI k) b = []
    · have : ln4 = 0 := by rw [← h1, hl]; rfl
      rw [decide_eq_true (by rw [HNp.out]; exact h2.1 hl), this]
      rfl
    · have : ln4 ≠ 0 := fun h => hl (List.eq_nil_of_length_eq_zero (by omega))
      rw [decide_eq_false (fun h => hl (h2.2 (by rw [← HNp.out]; exact h)))]
      simpa using this
  rw [← hsm0] at hsm
  have HSM := Lib.hid hsm
  clear hsm hsm0
  have KMP := Lib.hid (fun (wr : World) (h : Sb w wr Q2 p CA2 cn2 cc2 NA2 mn nc2) => ref_may (bid := p.id) (bv := p.valid) (bn := p.next) (bh := p.high) (wc := cc2) (mc := nc2) h.ws h.ms (Nat.le_refl _) h.hwc)
  obtain ⟨b0, b1, b2, b3, b4, b5, _⟩ := six_at SB.out.blk
  obtain ⟨q0, q1, q2, q3, q4, q5, _⟩ := six_at S1.out.blk
  have hss : (sm != sm) = false := by cases sm <;> rfl
  have hss2 : (!sm == sm) = false := by cases sm <;> rfl
  go_upto_region 8 with (first
    | (go_at_call 27; go_loud (
       refine HSM.out.mono ?_
       rintro e wa ⟨rfl, hba⟩
       have SB := Lib.hid (SB.out.go hba)
       have S1 := Lib.hid (S1.out.go hba)
       have L1 := Lib.hid (L1.out.go hba)
       have K1 := Lib.hid (KMP.out _ S1.out)
       clear hba b0 b1 b2 b3 b4 b5 q0 q1 q2 q3 q4 q5 KMP
       obtain ⟨q0, q1, q2, q3, q4, q5, _⟩ := six_at S1.out.blk))
    | (go_at_call 11; go_loud (
       refine K1.out.mono ?_
       rintro e wb ⟨rfl, hbb⟩
       rw [show mbE ⟨p.id, p.valid, p.next, p.high, p.words, p.msgs⟩ = 0 from HE1.out]
       have SB := Lib.hid (SB.out.go hbb)
       have S1 := Lib.hid (S1.out.go hbb)
       have L1 := Lib.hid (L1.out.go hbb)
       clear hbb q0 q1 q2 q3 q4 q5)))
  clear HSM K1 hss hss2 hsm1
  have HMI := Lib.hid (MI.made wb)
  have HBW := Lib.hid ((Below.refl wb.heap.size wb).alloc (Nat.le_refl _) (.map #[] 0))
  obtain ⟨M, hM⟩ : ∃ M, M = wb.heap.size := ⟨_, rfl⟩
  rw [← hM] at HMI HBW
  go_upto_region 11 with fail
  rw [← hM]
  generalize (World.alloc wb _) = wm at HMI HBW ⊢
  have HM0 := Lib.hid hM
  clear hM hmm
  have hlsn := L1.out.len
  have hln306 : ln4 ≤ 306 := by rw [← hlsn]; exact ls_len (fmI_is k) HE.out
  go_loopw [10, 11, 75] (fun s10 s11 s75 wr => ∃ (j n4 n7 : Nat), j ≤ ln4 ∧ n4 ≤ j ∧ n7 ≤ j ∧ s10 = .int .i64 n4 ∧ s11 = .int .i64 n7 ∧ s75 = .int .i64 j ∧ Hid (n4 = kN 4 ((ls (fmI k) b).take j) ∧ n7 = kN 7 ((ls (fmI k) b).take j)) ∧ Hid (MI wr M j fun v => (uN v ((ls (fmI k) b).take j) : Nat)) ∧ Hid (Below M wb wr)) (fun _ _ s75 _ => ln4 - (intOf s75).toNat)
  case atStart => exact ⟨0, 0, 0, Nat.zero_le _, Nat.le_refl _, Nat.le_refl _, rfl, rfl, rfl, Lib.hid (by rw [List.take_zero]; exact ⟨rfl, rfl⟩), Lib.hid (by rw [List.take_zero]; exact HMI.out), HBW⟩
  case round =>
    clear HMI HBW
    obtain ⟨j, n4, n7, hj, h4j, h7j, rfl, rfl, rfl, HN, HMI, HBW⟩ := hrel
    have hMl := HMI.out.lt
    have hbw : Below wb.heap.size wb wr := by have := HBW.out; rwa [HM0.out] at this
    by_cases hlt : j < ln4
    · obtain ⟨ad, kd, u, tx, rfl, hab, e1, c0, c1, c2⟩ := LosAt.sp L1.out.at_ hbw (Nat.le_refl _) hlt
      obtain ⟨hu, htx⟩ := ls_sizes HE.out _ (List.mem_of_getElem? e1)
      have hkd := ls_kind (List.mem_of_getElem? e1)
      dsimp only at hu htx hkd
      have hwu := wf_small (u := u) (by omega) (by omega)
      have HTK := Lib.hid (show (ls (fmI k) b).take (j + 1) = (ls (fmI k) b).take j ++ [⟨kd, u, tx⟩] by rw [List.take_add_one, e1]; rfl)
      obtain ⟨T, hT⟩ : ∃ T, T = textL ⟨kd, u, tx⟩ := ⟨_, rfl⟩
      have KT0 := fun (wx : World) (hb : Below w.heap.size w wx) => text_any (k := kd) (u := u) (tx := tx) (HT.out.below hb (Nat.le_refl _)) (by omega) (by omega) (by omega)
      have hTn : T.toList.isEmpty = false := by rw [hT]; exact text_ne hkd
      rw [← hT] at KT0
      have KT := Lib.hid KT0
      have MI5 := Lib.hid (HMI.out.alloc (.cells #[.int .i64 kd, .int .i64 u, .string tx] 50))
      have B5 := Lib.hid (HBW.out.alloc (by omega) (.cells #[.int .i64 kd, .int .i64 u, .string tx] 50))
      have HR5 := Lib.hid (heap_alloc_new wr (.cells #[.int .i64 kd, .int .i64 u, .string tx] 50))
      have hs5 : (wr.alloc (.cells #[.int .i64 kd, .int .i64 u, .string tx] 50)).heap.size = wr.heap.size + 1 := by simp
      have KT5 := Lib.hid (KT.out _ (SB.out.bel.trans ((show Below wb.heap.size wb _ from HM0.out ▸ B5.out).mono SB.out.bel.size)))
      clear KT0 hT KT e1 hab
      go_upto_region 13 with fail
      clear c0 c1 c2
      obtain ⟨O, hO⟩ : ∃ O, O = wr.heap.size := ⟨_, rfl⟩
      rw [← hO] at HR5 hs5 ⊢
      have hMO : M < O := by omega
      clear hO
      generalize (World.alloc wr _) = w5 at MI5 B5 HR5 hs5 KT5 ⊢
      have c := fun o => cell_of_row _ O o _ _ _ HR5.out
      have c0 := (c 0).trans (show _ = some (Value.int .i64 kd) from rfl)
      have c1 := (c 1).trans (show _ = some (Value.int .i64 u) from rfl)
      have c2 := (c 2).trans (show _ = some (Value.string tx) from rfl)
      clear c
      go_upto_region 15 with (go_at_call 29; go_loud (
         refine KT5.out.mono ?_
         rintro e w6 ⟨rfl, hb6⟩
         have MI6 := Lib.hid (MI5.out.go hb6)
         have B6 := Lib.hid (B5.out.trans (hb6.mono (by omega)))
         have hs6 := hb6.size
         have HR6 := Lib.hid ((hb6.block O (by omega)).trans HR5.out)
         clear hb6 c0 c1 c2))
      clear KT5 MI5 B5 HR5 HMI HBW hTn hbw
      have c := fun o => cell_of_row _ O o _ _ _ HR6.out
      have c0 := (c 0).trans (show _ = some (Value.int .i64 kd) from rfl)
      have c1 := (c 1).trans (show _ = some (Value.int .i64 u) from rfl)
      clear c
      by_cases k4 : kd = 4
      · subst k4
        have HN2 := Lib.hid (show n4 + 1 = kN 4 ((ls (fmI k) b).take (j + 1)) ∧ n7 = kN 7 ((ls (fmI k) b).take (j + 1)) by
          rw [HTK.out, kN_append, kN_append, ← HN.out.1, ← HN.out.2]; exact ⟨rfl, rfl⟩)
        have MI7 := Lib.hid (show MI w6 M (j + 1) fun v => (uN v ((ls (fmI k) b).take (j + 1)) : Nat) by
          have := MI6.out.more (show j ≤ j + 1 by omega)
          rw [HTK.out]
          rwa [show (fun v : Int => ((uN v ((ls (fmI k) b).take j ++ [⟨4, u, tx⟩]) : Nat) : Int)) = fun v => ((uN v ((ls (fmI k) b).take j) : Nat) : Int) from funext fun v => by rw [uN_append, uN_out (.inl rfl)]; rfl])
        clear HN HTK MI6
        go_wp2_with fail
        go_roundw
        case rel => exact ⟨j + 1, n4 + 1, n7, hlt, Nat.succ_le_succ h4j, Nat.le_succ_of_le h7j, by go_num, rfl, rfl, HN2, MI7, B6⟩
        case measure => exact meas hlt
      have k4b : (kd == 4) = false := by simpa using k4
      by_cases k7 : kd = 7
      · subst k7
        have HN2 := Lib.hid (show n4 = kN 4 ((ls (fmI k) b).take (j + 1)) ∧ n7 + 1 = kN 7 ((ls (fmI k) b).take (j + 1)) by
          rw [HTK.out, kN_append, kN_append, ← HN.out.1, ← HN.out.2]; exact ⟨rfl, rfl⟩)
        have MI7 := Lib.hid (show MI w6 M (j + 1) fun v => (uN v ((ls (fmI k) b).take (j + 1)) : Nat) by
          have := MI6.out.more (show j ≤ j + 1 by omega)
          rw [HTK.out]
          rwa [show (fun v : Int => ((uN v ((ls (fmI k) b).take j ++ [⟨7, u, tx⟩]) : Nat) : Int)) = fun v => ((uN v ((ls (fmI k) b).take j) : Nat) : Int) from funext fun v => by rw [uN_append, uN_out (.inr (.inl rfl))]; rfl])
        clear HN HTK MI6
        go_wp2_with fail
        go_roundw
        case rel => exact ⟨j + 1, n4, n7 + 1, hlt, Nat.le_succ_of_le h4j, Nat.succ_le_succ h7j, rfl, by go_num, rfl, HN2, MI7, B6⟩
        case measure => exact meas hlt
      have k7b : (kd == 7) = false := by simpa using k7
      have HN2 := Lib.hid (show n4 = kN 4 ((ls (fmI k) b).take (j + 1)) ∧ n7 = kN 7 ((ls (fmI k) b).take (j + 1)) by
          rw [HTK.out, kN_append, kN_append, ← HN.out.1, ← HN.out.2, kN_out k4, kN_out k7]; exact ⟨rfl, rfl⟩)
      obtain ⟨cu, hcu⟩ : ∃ cu, cu = uN u ((ls (fmI k) b).take j) := ⟨_, rfl⟩
      have hcj : cu ≤ j := by rw [hcu]; exact Nat.le_trans (List.length_filter_le _ _) (by rw [List.length_take]; omega)
      have hlk := MI6.out.look hwu
      rw [← hcu] at hlk
      have hwc := wf_cnt (Nat.le_trans hcj (Nat.le_trans hj hln306))
      have HCU := Lib.hid hcu
      clear HN hcu
      go_wp2_with (at_mapUpdate; go_loud (
        refine wpList_put MI6.out rfl (.tmp 84) (.tmp 86) (.tmp 88) rfl rfl rfl (y := (cu : Int) + 1) rfl (by unfold maxLen; omega) hwu hwc ?_
        intro w7 MI7 hg7
        have MI8 := Lib.hid (show MI w7 M (j + 1) fun v => (uN v ((ls (fmI k) b).take (j + 1)) : Nat) by
          rw [HTK.out]
          rwa [show (fun v : Int => ((uN v ((ls (fmI k) b).take j ++ [⟨kd, u, tx⟩]) : Nat) : Int)) = fun v => if v = u then (cu : Int) + 1 else ((uN v ((ls (fmI k) b).take j) : Nat) : Int) from funext fun v => by
            rw [uN_append]
            by_cases hv : v = u
            · subst hv
              rw [if_pos rfl, uN_in (x := ⟨kd, v, tx⟩) k4 k7 rfl, HCU.out]
              rfl
            · rw [if_neg hv, uN_out (.inr (.inr fun h => hv h.symm))]
              rfl])
        have B8 := Lib.hid (B6.out.grown hg7 (by omega) (fun g e => by have : M = g := Option.some.inj e; omega))
        clear MI7 hg7 c0 c1 hlk))
      go_roundw
      case rel => exact ⟨j + 1, n4, n7, hlt, Nat.le_succ_of_le h4j, Nat.le_succ_of_le h7j, rfl, rfl, rfl, HN2, MI8, B8⟩
      case measure => exact meas hlt
    · obtain rfl : ln4 = j := by omega
      have HF := Lib.hid (show n4 = b.words.length - p.words.length ∧ n7 = one (b.high ≠ p.high) by
        obtain ⟨a, c⟩ := HN.out
        rw [List.take_of_length_le (by rw [hlsn]; exact Nat.le_refl _)] at a c
        rw [a, c, HNp.out]
        exact ⟨ls_words _ _, ls_high _ _⟩)
      have MI9 := Lib.hid (show MI wr M ln4 fun v => (uN v (ls (fmI k) b) : Nat) by
        have := HMI.out
        rwa [List.take_of_length_le (by rw [hlsn]; exact Nat.le_refl _)] at this)
      have SB := Lib.hid (SB.out.go hbw)
      have S1 := Lib.hid (S1.out.go hbw)
      clear HN HMI HBW L1 hbw hMl hlsn h4j h7j hj hlt HM0
      obtain ⟨b0, b1, b2, b3, b4, b5, _⟩ := six_at SB.out.blk
      go_upto_region 23 with fail
      clear b0 b1 b2 b3 b4 b5
      have hmnm : mn ≤ 60 := by have h1 := SB.out.ms.len; have h2 := (OlP.good_of HE.out).ml; omega
      obtain ⟨wl, hwl⟩ : ∃ wl, wl = wr := ⟨_, rfl⟩
      subst hwl
      go_loopw [101] (fun s101 wr => ∃ i : Nat, i ≤ mn ∧ s101 = .int .i64 i ∧ Hid (Below wl.heap.size wl wr)) (fun s101 _ => mn - (intOf s101).toNat)
      case atStart => exact ⟨0, Nat.zero_le _, rfl, Lib.hid (Below.refl _ _)⟩
      case round =>
        obtain ⟨i, hi, rfl, BX⟩ := hrel
        by_cases hlt2 : i < mn
        · obtain ⟨ad, u, md, d, id, fl, ks, tx, K, kn, kc, rfl, hab, e1, m0, m1, m2, m3, m4, m5, m6, hkc, hks, y1, y2⟩ := MsgsAt.sp SB.out.ms BX.out (Nat.le_refl _) hlt2
          obtain ⟨ad2, u2, md2, d2, id2, fl2, ks2, tx2, K2, kn2, kc2, hna, hab2, e2, p0, p1, p2, p3, p4, p5, p6, hkc2, hks2, y3, y4⟩ := MsgsAt.sp S1.out.ms BX.out (Nat.le_refl _) hlt2
          subst hna
          have hcnt := just_count (HNp.out) HE.out e1 e2
          have hl1 := hks.len
          have hl2 := hks2.len
          rw [hl1, hl2] at hcnt
          have hub := just_uid HE.out e1
          have hwu := wf_small hub.1 hub.2
          obtain ⟨x1, hx1⟩ : ∃ x1, x1 = decide (id = id2) := ⟨_, rfl⟩
          obtain ⟨x2, hx2⟩ : ∃ x2, x2 = decide (md = md2) := ⟨_, rfl⟩
          obtain ⟨x3, hx3⟩ : ∃ x3, x3 = decide (kn = kn2) := ⟨_, rfl⟩
          rw [← hx1, ← hx2, ← hx3] at hcnt
          have hb1 : (id.toList == id2.toList) = x1 := by rw [hx1]; exact str_beq id id2
          have hb2 : (md == md2) = x2 := by rw [hx2]; exact int_beq md md2
          have hb3 : ((kn : Int) == (kn2 : Int)) = x3 := by rw [hx3]; exact nat_beq kn kn2
          have hb2' : (md != md2) = !x2 := by unfold bne; rw [hb2]
          have hb3' : ((kn : Int) != (kn2 : Int)) = !x3 := by unfold bne; rw [hb3]
          clear hx1 hx2 hx3
          have MI10 := MI9.out.go (BX.out.alloc BX.out.size (.cells #[.int .i64 u, .int .i64 md, .int .i64 d, .string id, .int .i64 fl, .slice K kn kc, .string tx] 28))
          have MI11 := Lib.hid (show MI (wr.alloc (.cells #[.int .i64 u, .int .i64 md, .int .i64 d, .string id, .int .i64 fl, .slice K kn kc, .string tx] 28)).drew.drew.drew M ln4 _ from MI10)
          have hlk := MI11.out.look hwu
          dsimp only at hlk
          obtain ⟨cn, hcn⟩ : ∃ cn, cn = uN u (ls (fmI k) b) := ⟨_, rfl⟩
          rw [← hcn] at hlk hcnt
          clear MI10 hcn
          have B10 := Lib.hid (show Below wl.heap.size wl (wr.alloc (.cells #[.int .i64 u, .int .i64 md, .int .i64 d, .string id, .int .i64 fl, .slice K kn kc, .string tx] 28)).drew.drew.drew from ((BX.out.alloc BX.out.size (.cells #[.int .i64 u, .int .i64 md, .int .i64 d, .string id, .int .i64 fl, .slice K kn kc, .string tx] 28)).drew.drew.drew))
          have hbx := (Below.refl wr.heap.size wr).alloc (Nat.le_refl _) (.cells #[.int .i64 u, .int .i64 md, .int .i64 d, .string id, .int .i64 fl, .slice K kn kc, .string tx] 28)
          have hbs := BX.out.size
          have q5 : (wr.alloc (.cells #[.int .i64 u, .int .i64 md, .int .i64 d, .string id, .int .i64 fl, .slice K kn kc, .string tx] 28)).cell? { block := Q2, off := 5 } = some (.slice (some ad2) mn nc2) := (hbx.cell (p := { block := Q2, off := 5 }) (by show Q2 < wr.heap.size; have := S1.out.lt; omega)).trans ((BX.out.cell (p := { block := Q2, off := 5 }) S1.out.lt).trans (six_at S1.out.blk).2.2.2.2.2.1)
          have r1 := (hbx.cell (p := { block := (ad2.add (i * 7)).block, off := (ad2.add (i * 7)).off + 1 }) (by show (ad2.add (i * 7)).block < _; rw [add_block]; omega)).trans p1
          have r3 := (hbx.cell (p := { block := (ad2.add (i * 7)).block, off := (ad2.add (i * 7)).off + 3 }) (by show (ad2.add (i * 7)).block < _; rw [add_block]; omega)).trans p3
          have r5 := (hbx.cell (p := { block := (ad2.add (i * 7)).block, off := (ad2.add (i * 7)).off + 5 }) (by show (ad2.add (i * 7)).block < _; rw [add_block]; omega)).trans p5
          have ho := heap_alloc_new wr (.cells #[.int .i64 u, .int .i64 md, .int .i64 d, .string id, .int .i64 fl, .slice K kn kc, .string tx] 28)
          clear p0 p1 p2 p3 p4 p5 p6 hks hks2 e1 e2 hl1 hl2
          go_upto_region 26 with fail
          clear m0 m1 m2 m3 m4 m5 m6
          obtain ⟨O, hO⟩ : ∃ O, O = wr.heap.size := ⟨_, rfl⟩
          rw [← hO] at ho ⊢
          clear hO hbs hbx
          generalize (World.alloc wr _) = w8 at ho q5 r1 r3 r5 hlk MI11 B10 ⊢
          have c := fun o => cell_of_row _ O o _ _ _ ho
          have o0 := (c 0).trans (show _ = some (Value.int .i64 u) from rfl)
          have o1 := (c 1).trans (show _ = some (Value.int .i64 md) from rfl)
          have o3 := (c 3).trans (show _ = some (Value.string id) from rfl)
          have o5 := (c 5).trans (show _ = some (Value.slice K kn kc) from rfl)
          clear c ho
          have SD0 := (show (w8.cell? { block := O, off := 0 } = some (.int .i64 u) ∧ w8.cell? { block := O, off := 1 } = some (.int .i64 md) ∧ w8.cell? { block := O, off := 3 } = some (.string id) ∧ w8.cell? { block := O, off := 5 } = some (.slice K kn kc)) ∧ w8.cell? { block := Q2, off := 5 } = some (.slice (some ad2) mn nc2) ∧ w8.cell? { block := (ad2.add (i * 7)).block, off := (ad2.add (i * 7)).off + 1 } = some (.int .i64 md2) ∧ w8.cell? { block := (ad2.add (i * 7)).block, off := (ad2.add (i * 7)).off + 3 } = some (.string id2) ∧ w8.cell? { block := (ad2.add (i * 7)).block, off := (ad2.add (i * 7)).off + 5 } = some (.slice K2 kn2 kc2) from ⟨⟨o0, o1, o3, o5⟩, q5, r1, r3, r5⟩)
          have SD1 := (show (w8.drew.cell? { block := O, off := 0 } = some (.int .i64 u) ∧ w8.drew.cell? { block := O, off := 1 } = some (.int .i64 md) ∧ w8.drew.cell? { block := O, off := 3 } = some (.string id) ∧ w8.drew.cell? { block := O, off := 5 } = some (.slice K kn kc)) ∧ w8.drew.cell? { block := Q2, off := 5 } = some (.slice (some ad2) mn nc2) ∧ w8.drew.cell? { block := (ad2.add (i * 7)).block, off := (ad2.add (i * 7)).off + 1 } = some (.int .i64 md2) ∧ w8.drew.cell? { block := (ad2.add (i * 7)).block, off := (ad2.add (i * 7)).off + 3 } = some (.string id2) ∧ w8.drew.cell? { block := (ad2.add (i * 7)).block, off := (ad2.add (i * 7)).off + 5 } = some (.slice K2 kn2 kc2) from SD0)
          have SD2 := (show (w8.drew.drew.cell? { block := O, off := 0 } = some (.int .i64 u) ∧ w8.drew.drew.cell? { block := O, off := 1 } = some (.int .i64 md) ∧ w8.drew.drew.cell? { block := O, off := 3 } = some (.string id) ∧ w8.drew.drew.cell? { block := O, off := 5 } = some (.slice K kn kc)) ∧ w8.drew.drew.cell? { block := Q2, off := 5 } = some (.slice (some ad2) mn nc2) ∧ w8.drew.drew.cell? { block := (ad2.add (i * 7)).block, off := (ad2.add (i * 7)).off + 1 } = some (.int .i64 md2) ∧ w8.drew.drew.cell? { block := (ad2.add (i * 7)).block, off := (ad2.add (i * 7)).off + 3 } = some (.string id2) ∧ w8.drew.drew.cell? { block := (ad2.add (i * 7)).block, off := (ad2.add (i * 7)).off + 5 } = some (.slice K2 kn2 kc2) from SD0)
          have SD3 := (show (w8.drew.drew.drew.cell? { block := O, off := 0 } = some (.int .i64 u) ∧ w8.drew.drew.drew.cell? { block := O, off := 1 } = some (.int .i64 md) ∧ w8.drew.drew.drew.cell? { block := O, off := 3 } = some (.string id) ∧ w8.drew.drew.drew.cell? { block := O, off := 5 } = some (.slice K kn kc)) ∧ w8.drew.drew.drew.cell? { block := Q2, off := 5 } = some (.slice (some ad2) mn nc2) ∧ w8.drew.drew.drew.cell? { block := (ad2.add (i * 7)).block, off := (ad2.add (i * 7)).off + 1 } = some (.int .i64 md2) ∧ w8.drew.drew.drew.cell? { block := (ad2.add (i * 7)).block, off := (ad2.add (i * 7)).off + 3 } = some (.string id2) ∧ w8.drew.drew.drew.cell? { block := (ad2.add (i * 7)).block, off := (ad2.add (i * 7)).off + 5 } = some (.slice K2 kn2 kc2) from SD0)
          have o0 : w8.drew.drew.drew.cell? { block := O, off := 0 } = some (Value.int .i64 u) := o0
          clear o1 o3 o5 q5 r1 r3 r5 SD0
          have g0 : (0 : Int) ≤ (i : Int) := by omega
          have g1 : (i : Int) < (mn : Int) := by omega
          cases x1 <;> cases x2 <;> cases x3
          all_goals
            simp only [Bool.not_true, Bool.not_false, Bool.false_eq_true, if_true, if_false, ite_true, ite_false, Nat.zero_add, Nat.add_zero, Nat.reduceAdd] at hb2' hb3' hcnt
            subst hcnt
            go_region_held3 (fun wx => (wx.cell? { block := O, off := 0 } = some (.int .i64 u) ∧ wx.cell? { block := O, off := 1 } = some (.int .i64 md) ∧ wx.cell? { block := O, off := 3 } = some (.string id) ∧ wx.cell? { block := O, off := 5 } = some (.slice K kn kc)) ∧ wx.cell? { block := Q2, off := 5 } = some (.slice (some ad2) mn nc2) ∧ wx.cell? { block := (ad2.add (i * 7)).block, off := (ad2.add (i * 7)).off + 1 } = some (.int .i64 md2) ∧ wx.cell? { block := (ad2.add (i * 7)).block, off := (ad2.add (i * 7)).off + 3 } = some (.string id2) ∧ wx.cell? { block := (ad2.add (i * 7)).block, off := (ad2.add (i * 7)).off + 5 } = some (.slice K2 kn2 kc2)) (with_reducible first | exact SD1 | go_keep) (fail)
            rename_i hHeld
            clear hHeld
            go_upto_region 28 with fail
            go_region_held3 (fun wx => (wx.cell? { block := O, off := 0 } = some (.int .i64 u) ∧ wx.cell? { block := O, off := 1 } = some (.int .i64 md) ∧ wx.cell? { block := O, off := 3 } = some (.string id) ∧ wx.cell? { block := O, off := 5 } = some (.slice K kn kc)) ∧ wx.cell? { block := Q2, off := 5 } = some (.slice (some ad2) mn nc2) ∧ wx.cell? { block := (ad2.add (i * 7)).block, off := (ad2.add (i * 7)).off + 1 } = some (.int .i64 md2) ∧ wx.cell? { block := (ad2.add (i * 7)).block, off := (ad2.add (i * 7)).off + 3 } = some (.string id2) ∧ wx.cell? { block := (ad2.add (i * 7)).block, off := (ad2.add (i * 7)).off + 5 } = some (.slice K2 kn2 kc2)) (with_reducible first | exact SD2 | go_keep) (fail)
            rename_i hHeld
            clear hHeld
            go_upto_region 30 with fail
            go_region_held3 (fun wx => (wx.cell? { block := O, off := 0 } = some (.int .i64 u) ∧ wx.cell? { block := O, off := 1 } = some (.int .i64 md) ∧ wx.cell? { block := O, off := 3 } = some (.string id) ∧ wx.cell? { block := O, off := 5 } = some (.slice K kn kc)) ∧ wx.cell? { block := Q2, off := 5 } = some (.slice (some ad2) mn nc2) ∧ wx.cell? { block := (ad2.add (i * 7)).block, off := (ad2.add (i * 7)).off + 1 } = some (.int .i64 md2) ∧ wx.cell? { block := (ad2.add (i * 7)).block, off := (ad2.add (i * 7)).off + 3 } = some (.string id2) ∧ wx.cell? { block := (ad2.add (i * 7)).block, off := (ad2.add (i * 7)).off + 5 } = some (.slice K2 kn2 kc2)) (with_reducible first | exact SD3 | go_keep) (fail)
            rename_i hHeld
            clear hHeld
            go_wp2_with fail
            go_roundw
            case rel => exact ⟨i + 1, hlt2, by go_num, B10⟩
            case measure => exact meas hlt2
        · have hwl : wn = b.words.length := SB.out.ws.len.symm
          have hpl : cn2 = p.words.length := S1.out.ws.len.symm
          have hple : p.words.length ≤ b.words.length := by rw [HNp.out]; unfold pj; rw [List.length_take]; omega
          have hw64 := (OlP.good_of HE.out).wl
          obtain ⟨f4, f7⟩ := HF.out
          have hA : ((n4 : Int) == (wn : Int) - (cn2 : Int)) = true := by rw [f4, hwl, hpl, Int.ofNat_sub hple]; exact beq_self_eq_true _
          obtain ⟨hx, hhx⟩ : ∃ hx, hx = decide (b.high = p.high) := ⟨_, rfl⟩
          have hB : (b.high == p.high) = hx := by rw [hhx]; exact int_beq _ _
          have hB2 : (b.high != p.high) = !hx := by unfold bne; rw [hB]
          have hC : ((n7 : Int) == 1) = !hx := by
            rw [f7, hhx]
            unfold one
            by_cases h : b.high = p.high <;> simp [h]
          have hD : ((!hx) == (!hx)) = true := by cases hx <;> rfl
          have SBx := Lib.hid (SB.out.go BX.out)
          have S1x := Lib.hid (S1.out.go BX.out)
          clear hhx f4 f7 HF MI9 SB S1
          obtain ⟨b0, b1, b2, b3, b4, b5, _⟩ := six_at SBx.out.blk
          obtain ⟨q0, q1, q2, q3, q4, q5, _⟩ := six_at S1x.out.blk
          have hs1 : (cn2 : Int) ≤ (wn : Int) := by omega
          have hs2 : (wn : Int) ≤ 64 := by omega
          have hs3 : (0 : Int) ≤ (cn2 : Int) := by omega
          have hA2 : (n4 : Int) = (wn : Int) - (cn2 : Int) := eq_of_beq hA
          clear hwl hpl hple hw64
          cases hx <;> (
            simp only [Bool.not_true, Bool.not_false] at hB2 hC hD
            go_wp2_with (go_at_call 22; go_loud (
              refine (HAW.out _ SBx.out.bel).mono ?_
              rintro e wz ⟨rfl, hbz⟩))
            go_ret
            exact ⟨rfl, SBx.out.bel.trans (hbz.mono SBx.out.bel.size)⟩)
end Go.Proofs.YtchlbbndfhibgaaGreatDoor.LwJust
