/-
  BoxForms: of any boxes, message, UID and ID the program answers what the document answers.
-/
import Derived.Test.YtabcfhjfdkbhaaaDoorBxAw
import Derived.Test.YtabcfhjfdkbhaaaDoorBxX
import Derived.Test.YtabcfhjfdkbhaaaDoorBxV
import Derived.Test.YtabcfhjfdkbhaaaDoorBxH
import Derived.Deep.RegionHeld3
import Derived.Deep.RegionWith
namespace Go.Proofs.YtabcfhjfdkbhaaaDoor.BxForms
open Go.RowKit Go.Proofs.YtabcfhjfdkbhaaaDoor.BxD Go.Proofs.YtabcfhjfdkbhaaaDoor.BxKit Go.Proofs.YtabcfhjfdkbhaaaDoor.BxA Go.Proofs.YtabcfhjfdkbhaaaDoor.BxM Go.Proofs.YtabcfhjfdkbhaaaDoor.BxB Go.Proofs.YtabcfhjfdkbhaaaDoor.BxX Go.Proofs.YtabcfhjfdkbhaaaDoor.BxS Go.Proofs.YtabcfhjfdkbhaaaDoor.BxF Go.Proofs.YtabcfhjfdkbhaaaDoor.BxO Go.Proofs.YtabcfhjfdkbhaaaDoor.BxR Go.Proofs.YtabcfhjfdkbhaaaDoor.BxV Go.Proofs.YtabcfhjfdkbhaaaDoor.BxH Go.Proofs.YtabcfhjfdkbhaaaDoor.BxAw

/-- Behind the making of three blocks, which stay. -/
def L3 (w : World) (o1 o2 o3 : Obj) (wr : World) : Prop := Below (w.heap.size + 3) (((w.alloc o1).alloc o2).alloc o3) wr
section
variable {w wr w2 : World} {o1 o2 o3 : Obj}
theorem L3.size (h : L3 w o1 o2 o3 wr) : w.heap.size + 3 ≤ wr.heap.size := by have := Below.size h; simpa using this
theorem L3.go (h : L3 w o1 o2 o3 wr) (hb : Below wr.heap.size wr w2) : L3 w o1 o2 o3 w2 := Below.trans h (hb.mono h.size)
theorem L3.alloc (h : L3 w o1 o2 o3 wr) (o : Obj) : L3 w o1 o2 o3 (wr.alloc o) := h.go ((Below.refl _ _).alloc (Nat.le_refl _) o)
theorem L3.drew (h : L3 w o1 o2 o3 wr) (n : Nat) : L3 w o1 o2 o3 (wr.drewN n) := below_drewN h n
theorem L3.below (h : L3 w o1 o2 o3 wr) : Below w.heap.size w wr := (((Below.refl w.heap.size w).alloc (Nat.le_refl _) o1).alloc (by simp) o2 |>.alloc (by simp; omega) o3).trans (Below.mono h (by omega))
theorem L3.drew1 (h : L3 w o1 o2 o3 wr) : L3 w o1 o2 o3 wr.drew := Below.drew h
theorem two_rows {A1 A2 : Option Addr} {n1 n2 c1 c2 B1 B2 : Nat} {l : List ByteArray} (h1 : StrsAt w B1 A1 n1 l) (h2 : StrsAt w B2 A2 n2 l) :
    Calls Tryd.prog 21 #[.slice A1 n1 c1, .slice A2 n2 c2] w fun e w' => e = .returned (.bool true) ∧ Drawn w w' := by
  have := sameTexts_any (cp := c1) (cq := c2) h1 h2
  rw [decide_eq_true rfl] at this
  exact this
theorem L3.facts {aid bid id tx : ByteArray} {av an ah bv bn bh u md d fl : Int} {WA XA WB XB K : Option Addr} {awn awc amn amc bwn bwc bmn bmc kn kc : Nat}  (h : L3 w (.cells #[.string aid, .int .i64 av, .int .i64 an, .int .i64 ah, .slice WA awn awc, .slice XA amn amc] 25) (.cells #[.string bid, .int .i64 bv, .int .i64 bn, .int .i64 bh, .slice WB bwn bwc, .slice XB bmn bmc] 25) (.cells #[.int .i64 u, .int .i64 md, .int .i64 d, .string id, .int .i64 fl, .slice K kn kc, .string tx] 28) wr) :
    wr.cell? { block := w.heap.size, off := 0 } = some (.string aid) ∧ wr.cell? { block := w.heap.size, off := 1 } = some (.int .i64 av) ∧ wr.cell? { block := w.heap.size, off := 2 } = some (.int .i64 an) ∧ wr.cell? { block := w.heap.size, off := 3 } = some (.int .i64 ah) ∧ wr.cell? { block := w.heap.size, off := 4 } = some (.slice WA awn awc) ∧ wr.cell? { block := w.heap.size, off := 5 } = some (.slice XA amn amc) ∧ wr.cell? { block := w.heap.size + 1, off := 0 } = some (.string bid) ∧ wr.cell? { block := w.heap.size + 1, off := 1 } = some (.int .i64 bv) ∧ wr.cell? { block := w.heap.size + 1, off := 2 } = some (.int .i64 bn) ∧ wr.cell? { block := w.heap.size + 1, off := 3 } = some (.int .i64 bh) ∧ wr.cell? { block := w.heap.size + 1, off := 4 } = some (.slice WB bwn bwc) ∧ wr.cell? { block := w.heap.size + 1, off := 5 } = some (.slice XB bmn bmc) ∧ wr.cell? { block := w.heap.size + 1 + 1, off := 0 } = some (.int .i64 u) ∧ wr.cell? { block := w.heap.size + 1 + 1, off := 1 } = some (.int .i64 md) ∧ wr.cell? { block := w.heap.size + 1 + 1, off := 2 } = some (.int .i64 d) ∧ wr.cell? { block := w.heap.size + 1 + 1, off := 3 } = some (.string id) ∧ wr.cell? { block := w.heap.size + 1 + 1, off := 4 } = some (.int .i64 fl) ∧ wr.cell? { block := w.heap.size + 1 + 1, off := 5 } = some (.slice K kn kc) ∧ wr.cell? { block := w.heap.size + 1 + 1, off := 6 } = some (.string tx) := by
  obtain ⟨ha, hb, hc⟩ := three_cells w #[.string aid, .int .i64 av, .int .i64 an, .int .i64 ah, .slice WA awn awc, .slice XA amn amc] #[.string bid, .int .i64 bv, .int .i64 bn, .int .i64 bh, .slice WB bwn bwc, .slice XB bmn bmc] #[.int .i64 u, .int .i64 md, .int .i64 d, .string id, .int .i64 fl, .slice K kn kc, .string tx] 25 25 28
  have c : ∀ b o, b < w.heap.size + 3 → wr.cell? { block := b, off := o } = (((w.alloc (.cells #[.string aid, .int .i64 av, .int .i64 an, .int .i64 ah, .slice WA awn awc, .slice XA amn amc] 25)).alloc (.cells #[.string bid, .int .i64 bv, .int .i64 bn, .int .i64 bh, .slice WB bwn bwc, .slice XB bmn bmc] 25)).alloc (.cells #[.int .i64 u, .int .i64 md, .int .i64 d, .string id, .int .i64 fl, .slice K kn kc, .string tx] 28)).cell? { block := b, off := o } := fun b o hlt => Below.cell h (p := ⟨b, o, none⟩) hlt
  refine ⟨?_, ?_, ?_, ?_, ?_, ?_, ?_, ?_, ?_, ?_, ?_, ?_, ?_, ?_, ?_, ?_, ?_, ?_, ?_⟩
  all_goals first | exact (c _ _ (by omega)).trans ((ha _).trans rfl) | exact (c _ _ (by omega)).trans ((hb _).trans rfl) | exact (c _ _ (by omega)).trans ((hc _).trans rfl)
end
theorem msgsAt_row {w : World} {u md d fl : Int} {id tx : ByteArray} {K : Option Addr} {kn kc B : Nat} {ks : List Int} (hk : IntsAt w B K kn ks) (hB : B ≤ w.heap.size) (hkc : kn ≤ kc) (z3 : id.size ≤ 140737488355328) (z4 : tx.size ≤ 140737488355328) :
    MsgsAt (w.alloc (.cells #[.int .i64 u, .int .i64 md, .int .i64 d, .string id, .int .i64 fl, .slice K kn kc, .string tx] 28)) (w.alloc (.cells #[.int .i64 u, .int .i64 md, .int .i64 d, .string id, .int .i64 fl, .slice K kn kc, .string tx] 28)).heap.size (some ⟨w.heap.size, 0, none⟩) 1 [⟨u, md, d, id, fl, ks, tx⟩] := by
  have hc : ∀ o, (w.alloc (.cells #[.int .i64 u, .int .i64 md, .int .i64 d, .string id, .int .i64 fl, .slice K kn kc, .string tx] 28)).cell? { block := w.heap.size, off := o } = (#[.int .i64 u, .int .i64 md, .int .i64 d, .string id, .int .i64 fl, .slice K kn kc, .string tx] : Array Value)[o]? := fun o => alloc_at w _ _ o
  refine ⟨rfl, by decide, fun _ => ⟨_, rfl, by simp, fun j x hx => ?_⟩⟩
  match j, hx with
  | 0, hx =>
    obtain rfl : (⟨u, md, d, id, fl, ks, tx⟩ : Msg) = x := by simpa using hx
    refine ⟨(hc 0).trans rfl, (hc 1).trans rfl, (hc 2).trans rfl, (hc 3).trans rfl, (hc 4).trans rfl, ⟨K, kc, ?_, ?_, ?_⟩, (hc 6).trans rfl, z3, z4⟩
    · have := (hc 5).trans rfl
      show _ = some (Value.slice K ks.length kc)
      rw [hk.len]; exact this
    · show ks.length ≤ kc
      rw [hk.len]; exact hkc
    · show IntsAt _ _ K ks.length ks
      rw [hk.len]
      exact IntsAt.more (IntsAt.below hk ((Below.refl w.heap.size w).alloc (Nat.le_refl _) _) hB) (by simp; omega)
  | j + 1, hx => simp at hx

set_option maxHeartbeats 4000000 in
set_option maxRecDepth 100000 in
theorem walk {aid bid id tx nm : ByteArray} {av an ah bv bn bh u md d fl uid : Int} {WA XA WB XB K : Option Addr} {awn awc amn amc bwn bwc bmn bmc kn kc : Nat} {aws bws : List ByteArray} {ams bms : List Msg} {ks : List Int} {w : World} (ht : Tab w)
    (h1 : StrsAt w w.heap.size WA awn aws) (h2 : MsgsAt w w.heap.size XA amn ams) (h3 : StrsAt w w.heap.size WB bwn bws) (h4 : MsgsAt w w.heap.size XB bmn bms) (h5 : IntsAt w w.heap.size K kn ks) (ha : awn ≤ awc) (hkc : kn ≤ kc)
    (z1 : aid.size ≤ 140737488355328) (z2 : bid.size ≤ 140737488355328) (z3 : id.size ≤ 140737488355328) (z4 : tx.size ≤ 140737488355328) (hu : uid ≤ 9223372036854775807) :
    Calls Tryd.prog 3 #[.agg #[.string aid, .int .i64 av, .int .i64 an, .int .i64 ah, .slice WA awn awc, .slice XA amn amc], .agg #[.string bid, .int .i64 bv, .int .i64 bn, .int .i64 bh, .slice WB bwn bwc, .slice XB bmn bmc],
      .agg #[.int .i64 u, .int .i64 md, .int .i64 d, .string id, .int .i64 fl, .slice K kn kc, .string tx], .int .i64 uid, .string nm] w fun e w' => e = .returned (.bool true) ∧ Below w.heap.size w w' := by
  have KA : ∀ wr, L3 w (.cells #[.string aid, .int .i64 av, .int .i64 an, .int .i64 ah, .slice WA awn awc, .slice XA amn amc] 25) (.cells #[.string bid, .int .i64 bv, .int .i64 bn, .int .i64 bh, .slice WB bwn bwc, .slice XB bmn bmc] 25) (.cells #[.int .i64 u, .int .i64 md, .int .i64 d, .string id, .int .i64 fl, .slice K kn kc, .string tx] 28) wr → Calls Tryd.prog 9 #[.agg #[.string aid, .int .i64 av, .int .i64 an, .int .i64 ah, .slice WA awn awc, .slice XA amn amc]] wr (fun e w' => e = .returned (.int .i64 (hv aid aws ams)) ∧ Below wr.heap.size wr w') := fun wr h =>
    heavy_any (StrsAt.below h1 h.below (Nat.le_refl _)) (MsgsAt.below h2 h.below (Nat.le_refl _)) h.below.size h.below.size z1
  have KB : ∀ wr, L3 w (.cells #[.string aid, .int .i64 av, .int .i64 an, .int .i64 ah, .slice WA awn awc, .slice XA amn amc] 25) (.cells #[.string bid, .int .i64 bv, .int .i64 bn, .int .i64 bh, .slice WB bwn bwc, .slice XB bmn bmc] 25) (.cells #[.int .i64 u, .int .i64 md, .int .i64 d, .string id, .int .i64 fl, .slice K kn kc, .string tx] 28) wr → Calls Tryd.prog 9 #[.agg #[.string bid, .int .i64 bv, .int .i64 bn, .int .i64 bh, .slice WB bwn bwc, .slice XB bmn bmc]] wr (fun e w' => e = .returned (.int .i64 (hv bid bws bms)) ∧ Below wr.heap.size wr w') := fun wr h =>
    heavy_any (StrsAt.below h3 h.below (Nat.le_refl _)) (MsgsAt.below h4 h.below (Nat.le_refl _)) h.below.size h.below.size z2
  have KC : ∀ wr g, L3 w (.cells #[.string aid, .int .i64 av, .int .i64 an, .int .i64 ah, .slice WA awn awc, .slice XA amn amc] 25) (.cells #[.string bid, .int .i64 bv, .int .i64 bn, .int .i64 bh, .slice WB bwn bwc, .slice XB bmn bmc] 25) (.cells #[.int .i64 u, .int .i64 md, .int .i64 d, .string id, .int .i64 fl, .slice K kn kc, .string tx] 28) wr → MsgsAt wr wr.heap.size (some { block := g, off := 0 }) 1 [(⟨u, md, d, id, fl, ks, tx⟩ : Msg)] → Calls Tryd.prog 9 #[.agg #[.string ⟨#[]⟩, .int .i64 0, .int .i64 0, .int .i64 0, .slice none 0 0, .slice (some { block := g, off := 0 }) 1 1]] wr (fun e w' => e = .returned (.int .i64 (hv ⟨#[]⟩ [] [(⟨u, md, d, id, fl, ks, tx⟩ : Msg)])) ∧ Below wr.heap.size wr w') := fun wr g h hm =>
    heavy_any (RowAt.nil strC 1 wr wr.heap.size none) hm (Nat.le_refl _) (Nat.le_refl _) (by decide)
  have MS : ∀ wr, L3 w (.cells #[.string aid, .int .i64 av, .int .i64 an, .int .i64 ah, .slice WA awn awc, .slice XA amn amc] 25) (.cells #[.string bid, .int .i64 bv, .int .i64 bn, .int .i64 bh, .slice WB bwn bwc, .slice XB bmn bmc] 25) (.cells #[.int .i64 u, .int .i64 md, .int .i64 d, .string id, .int .i64 fl, .slice K kn kc, .string tx] 28) wr → MsgsAt (wr.alloc (.cells #[.int .i64 u, .int .i64 md, .int .i64 d, .string id, .int .i64 fl, .slice K kn kc, .string tx] 28)) (wr.alloc (.cells #[.int .i64 u, .int .i64 md, .int .i64 d, .string id, .int .i64 fl, .slice K kn kc, .string tx] 28)).heap.size (some { block := wr.heap.size, off := 0 }) 1 [(⟨u, md, d, id, fl, ks, tx⟩ : Msg)] := fun wr h => msgsAt_row (IntsAt.below h5 h.below (Nat.le_refl _)) h.below.size hkc z3 z4
  have S0 := Lib.hid (show L3 w (.cells #[.string aid, .int .i64 av, .int .i64 an, .int .i64 ah, .slice WA awn awc, .slice XA amn amc] 25) (.cells #[.string bid, .int .i64 bv, .int .i64 bn, .int .i64 bh, .slice WB bwn bwc, .slice XB bmn bmc] 25) (.cells #[.int .i64 u, .int .i64 md, .int .i64 d, .string id, .int .i64 fl, .slice K kn kc, .string tx] 28) _ from Below.refl _ _)
  have hA := hv_or aid aws ams
  have hB := hv_or bid bws bms
  have hC := hv_or ⟨#[]⟩ [] [(⟨u, md, d, id, fl, ks, tx⟩ : Msg)]
  generalize hv aid aws ams = nA at KA hA
  generalize hv bid bws bms = nB at KB hB
  generalize hv ⟨#[]⟩ [] [(⟨u, md, d, id, fl, ks, tx⟩ : Msg)] = nC at KC hC
  have hM0 := MS _ S0.out
  rw [show (((w.alloc (.cells #[.string aid, .int .i64 av, .int .i64 an, .int .i64 ah, .slice WA awn awc, .slice XA amn amc] 25)).alloc (.cells #[.string bid, .int .i64 bv, .int .i64 bn, .int .i64 bh, .slice WB bwn bwc, .slice XB bmn bmc] 25)).alloc (.cells #[.int .i64 u, .int .i64 md, .int .i64 d, .string id, .int .i64 fl, .slice K kn kc, .string tx] 28)).heap.size = w.heap.size + 1 + 1 + 1 by simp] at hM0
  have HM0 := Lib.hid hM0
  clear hM0
  have HKA := Lib.hid KA
  have HKB := Lib.hid KB
  have HKC := Lib.hid KC
  have HMS := Lib.hid MS
  have HT := Lib.hid ht
  have HA1 := Lib.hid h1
  have HA2 := Lib.hid h2
  have HB1 := Lib.hid h3
  have HB2 := Lib.hid h4
  have HK := Lib.hid h5
  have hkn := h5.len
  have HKN := Lib.hid hkn
  obtain ⟨bb, hbb⟩ : ∃ bb, bb = (decide (0 < nA + nB + nC) || decide (200 < nm.size)) := ⟨_, rfl⟩
  have HBB := Lib.hid hbb
  have hA1 : nA = 1 ∨ nA = 0 := by rcases hA with h | h; exact .inl h; exact .inr h.1
  have hB1 : nB = 1 ∨ nB = 0 := by rcases hB with h | h; exact .inl h; exact .inr h.1
  have hC1 : nC = 1 ∨ nC = 0 := by rcases hC with h | h; exact .inl h; exact .inr h.1
  have HA3 := Lib.hid hA1
  have HB3 := Lib.hid hB1
  have HC3 := Lib.hid hC1
  have HC4 := Lib.hid (show nC = 0 → kn ≤ 60000 from fun h => by
    rcases hC with h1 | ⟨_, _, _, h2⟩
    · rw [h] at h1; cases h1
    · have := h2 _ (List.mem_singleton.2 rfl); simp only at this; omega)
  clear KA KB KC MS ht h1 h2 h3 h4 h5 hkn hbb hA hB hC hA1 hB1 hC1
  go_enter Tryd.func3, Tryd.ntmps3
  go_upto_region 1 with (fail)
  go_cut [26] (fun s26 wx => s26 = .bool bb ∧ Hid (L3 w (.cells #[.string aid, .int .i64 av, .int .i64 an, .int .i64 ah, .slice WA awn awc, .slice XA amn amc] 25) (.cells #[.string bid, .int .i64 bv, .int .i64 bn, .int .i64 bh, .slice WB bwn bwc, .slice XB bmn bmc] 25) (.cells #[.int .i64 u, .int .i64 md, .int .i64 d, .string id, .int .i64 fl, .slice K kn kc, .string tx] 28) wx))
  case first =>
    obtain ⟨a0, a1, a2, a3, a4, a5, b0, b1, b2, b3, b4, b5, m0, m1, m2, m3, m4, m5, m6⟩ := S0.out.facts
    obtain ⟨s1, hs1⟩ : ∃ s1, IntKind.i64.wrap (nA + nB) = s1 := ⟨_, rfl⟩
    obtain ⟨s2, hs2⟩ : ∃ s2, IntKind.i64.wrap (s1 + nC) = s2 := ⟨_, rfl⟩
    have HSUM := Lib.hid (show s2 = nA + nB + nC by
      have h1 := HA3.out
      have h2 := HB3.out
      have h3 := HC3.out
      have e1 : IntKind.i64.wrap (nA + nB) = nA + nB := IntWalk.i64_in _ (by omega)
      have e2 : IntKind.i64.wrap (s1 + nC) = s1 + nC := IntWalk.i64_in _ (by omega)
      omega)
    have hs2' := Lib.hid hs2
    cases hg : decide (0 < s2) with
    | true =>
      have HZ := Lib.hid (show 0 < nA + nB + nC by have := of_decide_eq_true hg; have := HSUM.out; omega)
      first
      | (
        go_region_held (fun wr => wr.cell? { block := w.heap.size, off := 0 } = some (.string aid) ∧ wr.cell? { block := w.heap.size, off := 1 } = some (.int .i64 av) ∧ wr.cell? { block := w.heap.size, off := 2 } = some (.int .i64 an) ∧ wr.cell? { block := w.heap.size, off := 3 } = some (.int .i64 ah) ∧ wr.cell? { block := w.heap.size, off := 4 } = some (.slice WA awn awc) ∧ wr.cell? { block := w.heap.size, off := 5 } = some (.slice XA amn amc) ∧ wr.cell? { block := w.heap.size + 1, off := 0 } = some (.string bid) ∧ wr.cell? { block := w.heap.size + 1, off := 1 } = some (.int .i64 bv) ∧ wr.cell? { block := w.heap.size + 1, off := 2 } = some (.int .i64 bn) ∧ wr.cell? { block := w.heap.size + 1, off := 3 } = some (.int .i64 bh) ∧ wr.cell? { block := w.heap.size + 1, off := 4 } = some (.slice WB bwn bwc) ∧ wr.cell? { block := w.heap.size + 1, off := 5 } = some (.slice XB bmn bmc) ∧ wr.cell? { block := w.heap.size + 1 + 1, off := 0 } = some (.int .i64 u) ∧ wr.cell? { block := w.heap.size + 1 + 1, off := 1 } = some (.int .i64 md) ∧ wr.cell? { block := w.heap.size + 1 + 1, off := 2 } = some (.int .i64 d) ∧ wr.cell? { block := w.heap.size + 1 + 1, off := 3 } = some (.string id) ∧ wr.cell? { block := w.heap.size + 1 + 1, off := 4 } = some (.int .i64 fl) ∧ wr.cell? { block := w.heap.size + 1 + 1, off := 5 } = some (.slice K kn kc) ∧ wr.cell? { block := w.heap.size + 1 + 1, off := 6 } = some (.string tx)) (first | exact S0.out.facts | exact (S0.out.alloc _).facts | exact S1.out.facts | exact (S1.out.alloc _).facts | exact S2.out.facts | exact (S2.out.alloc _).facts | exact S3.out.facts | exact (S3.out.alloc _).facts | exact (S0.out.drew _).facts | exact ((S0.out.drew _).alloc _).facts | go_keep) (first
              | (go_at_call 9
                 ((with_reducible refine (HKA.out _ ?c1).mono ?_); rotate_left)
                 case c1 => (first | exact S0.out | exact S0.out.alloc _ | exact S0.out.drew _ | exact (S0.out.drew _).alloc _)
                 rintro e w1 ⟨rfl, hb1⟩
                 have S1 := Lib.hid (show L3 w (.cells #[.string aid, .int .i64 av, .int .i64 an, .int .i64 ah, .slice WA awn awc, .slice XA amn amc] 25) (.cells #[.string bid, .int .i64 bv, .int .i64 bn, .int .i64 bh, .slice WB bwn bwc, .slice XB bmn bmc] 25) (.cells #[.int .i64 u, .int .i64 md, .int .i64 d, .string id, .int .i64 fl, .slice K kn kc, .string tx] 28) w1 by first | exact S0.out.go hb1 | exact (S0.out.alloc _).go hb1 | exact (S0.out.drew _).go hb1 | exact ((S0.out.drew _).alloc _).go hb1)
                 dsimp only)
              | (go_at_call 9
                 ((with_reducible refine (HKB.out _ ?c2).mono ?_); rotate_left)
                 case c2 => (first | exact S1.out | exact S1.out.alloc _ | exact S1.out.drew _ | exact (S1.out.drew _).alloc _)
                 rintro e w2 ⟨rfl, hb2⟩
                 have S2 := Lib.hid (show L3 w (.cells #[.string aid, .int .i64 av, .int .i64 an, .int .i64 ah, .slice WA awn awc, .slice XA amn amc] 25) (.cells #[.string bid, .int .i64 bv, .int .i64 bn, .int .i64 bh, .slice WB bwn bwc, .slice XB bmn bmc] 25) (.cells #[.int .i64 u, .int .i64 md, .int .i64 d, .string id, .int .i64 fl, .slice K kn kc, .string tx] 28) w2 by first | exact S1.out.go hb2 | exact (S1.out.alloc _).go hb2)
                 dsimp only)
              | (go_at_call 9
                 ((with_reducible refine (HKC.out _ _ ?c3 ?c4).mono ?_); rotate_left)
                 case c3 => (first | exact S2.out | exact S2.out.alloc _ | exact S2.out.drew _ | exact (S2.out.drew _).alloc _)
                 case c4 => first | exact HMS.out _ S2.out | exact MsgsAt.more (MsgsAt.below (MsgsAt.below (MsgsAt.below HM0.out (Below.refl _ _).drew (Nat.le_refl _)) hb1 (Nat.le_refl _)) hb2 hb1.size) (Nat.le_trans hb1.size hb2.size) | exact MsgsAt.more (MsgsAt.below (MsgsAt.below HM0.out hb1 (Nat.le_refl _)) hb2 hb1.size) (Nat.le_trans hb1.size hb2.size) | exact MsgsAt.more (MsgsAt.below (HMS.out _ S1.out) hb2 (Nat.le_refl _)) hb2.size | exact MsgsAt.more (MsgsAt.below (MsgsAt.below (HMS.out _ S0.out) hb1 (Nat.le_refl _)) hb2 hb1.size) (Nat.le_trans hb1.size hb2.size) | exact MsgsAt.more (MsgsAt.below (MsgsAt.below (HMS.out _ (S0.out.drew _)) hb1 (Nat.le_refl _)) hb2 hb1.size) (Nat.le_trans hb1.size hb2.size)
                 rintro e w3 ⟨rfl, hb3⟩
                 have S3 := Lib.hid (show L3 w (.cells #[.string aid, .int .i64 av, .int .i64 an, .int .i64 ah, .slice WA awn awc, .slice XA amn amc] 25) (.cells #[.string bid, .int .i64 bv, .int .i64 bn, .int .i64 bh, .slice WB bwn bwc, .slice XB bmn bmc] 25) (.cells #[.int .i64 u, .int .i64 md, .int .i64 d, .string id, .int .i64 fl, .slice K kn kc, .string tx] 28) w3 by first | exact S2.out.go hb3 | exact (S2.out.alloc _).go hb3)
                 dsimp only)))
      | fail
      all_goals
        go_wp2_with fail
        go_meet
        refine ⟨?_, ?_⟩
        · rw [HBB.out, decide_eq_true HZ.out]; rfl
        · first | exact S3.out
    | false =>
      have HZ := Lib.hid (show ¬ 0 < nA + nB + nC by have := of_decide_eq_false hg; have := HSUM.out; omega)
      cases hn : decide (200 < (nm.size : Int)) with
      | true =>
        have HN := Lib.hid (show 200 < nm.size by have := of_decide_eq_true hn; omega)
        go_region_held3 (fun wr => wr.cell? { block := w.heap.size, off := 0 } = some (.string aid) ∧ wr.cell? { block := w.heap.size, off := 1 } = some (.int .i64 av) ∧ wr.cell? { block := w.heap.size, off := 2 } = some (.int .i64 an) ∧ wr.cell? { block := w.heap.size, off := 3 } = some (.int .i64 ah) ∧ wr.cell? { block := w.heap.size, off := 4 } = some (.slice WA awn awc) ∧ wr.cell? { block := w.heap.size, off := 5 } = some (.slice XA amn amc) ∧ wr.cell? { block := w.heap.size + 1, off := 0 } = some (.string bid) ∧ wr.cell? { block := w.heap.size + 1, off := 1 } = some (.int .i64 bv) ∧ wr.cell? { block := w.heap.size + 1, off := 2 } = some (.int .i64 bn) ∧ wr.cell? { block := w.heap.size + 1, off := 3 } = some (.int .i64 bh) ∧ wr.cell? { block := w.heap.size + 1, off := 4 } = some (.slice WB bwn bwc) ∧ wr.cell? { block := w.heap.size + 1, off := 5 } = some (.slice XB bmn bmc) ∧ wr.cell? { block := w.heap.size + 1 + 1, off := 0 } = some (.int .i64 u) ∧ wr.cell? { block := w.heap.size + 1 + 1, off := 1 } = some (.int .i64 md) ∧ wr.cell? { block := w.heap.size + 1 + 1, off := 2 } = some (.int .i64 d) ∧ wr.cell? { block := w.heap.size + 1 + 1, off := 3 } = some (.string id) ∧ wr.cell? { block := w.heap.size + 1 + 1, off := 4 } = some (.int .i64 fl) ∧ wr.cell? { block := w.heap.size + 1 + 1, off := 5 } = some (.slice K kn kc) ∧ wr.cell? { block := w.heap.size + 1 + 1, off := 6 } = some (.string tx)) (first | exact S0.out.facts | exact (S0.out.alloc _).facts | exact S1.out.facts | exact (S1.out.alloc _).facts | exact S2.out.facts | exact (S2.out.alloc _).facts | exact S3.out.facts | exact (S3.out.alloc _).facts | exact (S0.out.drew _).facts | exact ((S0.out.drew _).alloc _).facts | go_keep) (first
              | (go_at_call 9
                 ((with_reducible refine (HKA.out _ ?c1).mono ?_); rotate_left)
                 case c1 => (first | exact S0.out | exact S0.out.alloc _ | exact S0.out.drew _ | exact (S0.out.drew _).alloc _)
                 rintro e w1 ⟨rfl, hb1⟩
                 have S1 := Lib.hid (show L3 w (.cells #[.string aid, .int .i64 av, .int .i64 an, .int .i64 ah, .slice WA awn awc, .slice XA amn amc] 25) (.cells #[.string bid, .int .i64 bv, .int .i64 bn, .int .i64 bh, .slice WB bwn bwc, .slice XB bmn bmc] 25) (.cells #[.int .i64 u, .int .i64 md, .int .i64 d, .string id, .int .i64 fl, .slice K kn kc, .string tx] 28) w1 by first | exact S0.out.go hb1 | exact (S0.out.alloc _).go hb1 | exact (S0.out.drew _).go hb1 | exact ((S0.out.drew _).alloc _).go hb1)
                 dsimp only)
              | (go_at_call 9
                 ((with_reducible refine (HKB.out _ ?c2).mono ?_); rotate_left)
                 case c2 => (first | exact S1.out | exact S1.out.alloc _ | exact S1.out.drew _ | exact (S1.out.drew _).alloc _)
                 rintro e w2 ⟨rfl, hb2⟩
                 have S2 := Lib.hid (show L3 w (.cells #[.string aid, .int .i64 av, .int .i64 an, .int .i64 ah, .slice WA awn awc, .slice XA amn amc] 25) (.cells #[.string bid, .int .i64 bv, .int .i64 bn, .int .i64 bh, .slice WB bwn bwc, .slice XB bmn bmc] 25) (.cells #[.int .i64 u, .int .i64 md, .int .i64 d, .string id, .int .i64 fl, .slice K kn kc, .string tx] 28) w2 by first | exact S1.out.go hb2 | exact (S1.out.alloc _).go hb2)
                 dsimp only)
              | (go_at_call 9
                 ((with_reducible refine (HKC.out _ _ ?c3 ?c4).mono ?_); rotate_left)
                 case c3 => (first | exact S2.out | exact S2.out.alloc _ | exact S2.out.drew _ | exact (S2.out.drew _).alloc _)
                 case c4 => first | exact HMS.out _ S2.out | exact MsgsAt.more (MsgsAt.below (MsgsAt.below (MsgsAt.below HM0.out (Below.refl _ _).drew (Nat.le_refl _)) hb1 (Nat.le_refl _)) hb2 hb1.size) (Nat.le_trans hb1.size hb2.size) | exact MsgsAt.more (MsgsAt.below (MsgsAt.below HM0.out hb1 (Nat.le_refl _)) hb2 hb1.size) (Nat.le_trans hb1.size hb2.size) | exact MsgsAt.more (MsgsAt.below (HMS.out _ S1.out) hb2 (Nat.le_refl _)) hb2.size | exact MsgsAt.more (MsgsAt.below (MsgsAt.below (HMS.out _ S0.out) hb1 (Nat.le_refl _)) hb2 hb1.size) (Nat.le_trans hb1.size hb2.size) | exact MsgsAt.more (MsgsAt.below (MsgsAt.below (HMS.out _ (S0.out.drew _)) hb1 (Nat.le_refl _)) hb2 hb1.size) (Nat.le_trans hb1.size hb2.size)
                 rintro e w3 ⟨rfl, hb3⟩
                 have S3 := Lib.hid (show L3 w (.cells #[.string aid, .int .i64 av, .int .i64 an, .int .i64 ah, .slice WA awn awc, .slice XA amn amc] 25) (.cells #[.string bid, .int .i64 bv, .int .i64 bn, .int .i64 bh, .slice WB bwn bwc, .slice XB bmn bmc] 25) (.cells #[.int .i64 u, .int .i64 md, .int .i64 d, .string id, .int .i64 fl, .slice K kn kc, .string tx] 28) w3 by first | exact S2.out.go hb3 | exact (S2.out.alloc _).go hb3)
                 dsimp only))
        all_goals
          go_wp2_with fail
          go_meet
          refine ⟨?_, ?_⟩
          · rw [HBB.out, decide_eq_true HN.out]; first | rfl | simp
          · first | exact S3.out
      | false =>
        have HN := Lib.hid (show ¬ 200 < nm.size by have := of_decide_eq_false hn; omega)
        go_region_held3 (fun wr => wr.cell? { block := w.heap.size, off := 0 } = some (.string aid) ∧ wr.cell? { block := w.heap.size, off := 1 } = some (.int .i64 av) ∧ wr.cell? { block := w.heap.size, off := 2 } = some (.int .i64 an) ∧ wr.cell? { block := w.heap.size, off := 3 } = some (.int .i64 ah) ∧ wr.cell? { block := w.heap.size, off := 4 } = some (.slice WA awn awc) ∧ wr.cell? { block := w.heap.size, off := 5 } = some (.slice XA amn amc) ∧ wr.cell? { block := w.heap.size + 1, off := 0 } = some (.string bid) ∧ wr.cell? { block := w.heap.size + 1, off := 1 } = some (.int .i64 bv) ∧ wr.cell? { block := w.heap.size + 1, off := 2 } = some (.int .i64 bn) ∧ wr.cell? { block := w.heap.size + 1, off := 3 } = some (.int .i64 bh) ∧ wr.cell? { block := w.heap.size + 1, off := 4 } = some (.slice WB bwn bwc) ∧ wr.cell? { block := w.heap.size + 1, off := 5 } = some (.slice XB bmn bmc) ∧ wr.cell? { block := w.heap.size + 1 + 1, off := 0 } = some (.int .i64 u) ∧ wr.cell? { block := w.heap.size + 1 + 1, off := 1 } = some (.int .i64 md) ∧ wr.cell? { block := w.heap.size + 1 + 1, off := 2 } = some (.int .i64 d) ∧ wr.cell? { block := w.heap.size + 1 + 1, off := 3 } = some (.string id) ∧ wr.cell? { block := w.heap.size + 1 + 1, off := 4 } = some (.int .i64 fl) ∧ wr.cell? { block := w.heap.size + 1 + 1, off := 5 } = some (.slice K kn kc) ∧ wr.cell? { block := w.heap.size + 1 + 1, off := 6 } = some (.string tx)) (first | exact S0.out.facts | exact (S0.out.alloc _).facts | exact S1.out.facts | exact (S1.out.alloc _).facts | exact S2.out.facts | exact (S2.out.alloc _).facts | exact S3.out.facts | exact (S3.out.alloc _).facts | exact (S0.out.drew _).facts | exact ((S0.out.drew _).alloc _).facts | go_keep) (first
              | (go_at_call 9
                 ((with_reducible refine (HKA.out _ ?c1).mono ?_); rotate_left)
                 case c1 => (first | exact S0.out | exact S0.out.alloc _ | exact S0.out.drew _ | exact (S0.out.drew _).alloc _)
                 rintro e w1 ⟨rfl, hb1⟩
                 have S1 := Lib.hid (show L3 w (.cells #[.string aid, .int .i64 av, .int .i64 an, .int .i64 ah, .slice WA awn awc, .slice XA amn amc] 25) (.cells #[.string bid, .int .i64 bv, .int .i64 bn, .int .i64 bh, .slice WB bwn bwc, .slice XB bmn bmc] 25) (.cells #[.int .i64 u, .int .i64 md, .int .i64 d, .string id, .int .i64 fl, .slice K kn kc, .string tx] 28) w1 by first | exact S0.out.go hb1 | exact (S0.out.alloc _).go hb1 | exact (S0.out.drew _).go hb1 | exact ((S0.out.drew _).alloc _).go hb1)
                 dsimp only)
              | (go_at_call 9
                 ((with_reducible refine (HKB.out _ ?c2).mono ?_); rotate_left)
                 case c2 => (first | exact S1.out | exact S1.out.alloc _ | exact S1.out.drew _ | exact (S1.out.drew _).alloc _)
                 rintro e w2 ⟨rfl, hb2⟩
                 have S2 := Lib.hid (show L3 w (.cells #[.string aid, .int .i64 av, .int .i64 an, .int .i64 ah, .slice WA awn awc, .slice XA amn amc] 25) (.cells #[.string bid, .int .i64 bv, .int .i64 bn, .int .i64 bh, .slice WB bwn bwc, .slice XB bmn bmc] 25) (.cells #[.int .i64 u, .int .i64 md, .int .i64 d, .string id, .int .i64 fl, .slice K kn kc, .string tx] 28) w2 by first | exact S1.out.go hb2 | exact (S1.out.alloc _).go hb2)
                 dsimp only)
              | (go_at_call 9
                 ((with_reducible refine (HKC.out _ _ ?c3 ?c4).mono ?_); rotate_left)
                 case c3 => (first | exact S2.out | exact S2.out.alloc _ | exact S2.out.drew _ | exact (S2.out.drew _).alloc _)
                 case c4 => first | exact HMS.out _ S2.out | exact MsgsAt.more (MsgsAt.below (MsgsAt.below (MsgsAt.below HM0.out (Below.refl _ _).drew (Nat.le_refl _)) hb1 (Nat.le_refl _)) hb2 hb1.size) (Nat.le_trans hb1.size hb2.size) | exact MsgsAt.more (MsgsAt.below (MsgsAt.below HM0.out hb1 (Nat.le_refl _)) hb2 hb1.size) (Nat.le_trans hb1.size hb2.size) | exact MsgsAt.more (MsgsAt.below (HMS.out _ S1.out) hb2 (Nat.le_refl _)) hb2.size | exact MsgsAt.more (MsgsAt.below (MsgsAt.below (HMS.out _ S0.out) hb1 (Nat.le_refl _)) hb2 hb1.size) (Nat.le_trans hb1.size hb2.size) | exact MsgsAt.more (MsgsAt.below (MsgsAt.below (HMS.out _ (S0.out.drew _)) hb1 (Nat.le_refl _)) hb2 hb1.size) (Nat.le_trans hb1.size hb2.size)
                 rintro e w3 ⟨rfl, hb3⟩
                 have S3 := Lib.hid (show L3 w (.cells #[.string aid, .int .i64 av, .int .i64 an, .int .i64 ah, .slice WA awn awc, .slice XA amn amc] 25) (.cells #[.string bid, .int .i64 bv, .int .i64 bn, .int .i64 bh, .slice WB bwn bwc, .slice XB bmn bmc] 25) (.cells #[.int .i64 u, .int .i64 md, .int .i64 d, .string id, .int .i64 fl, .slice K kn kc, .string tx] 28) w3 by first | exact S2.out.go hb3 | exact (S2.out.alloc _).go hb3)
                 dsimp only))
        all_goals
          go_wp2_with fail
          go_meet
          refine ⟨?_, ?_⟩
          · rw [HBB.out, show decide (0 < nA + nB + nC) = false from decide_eq_false (by have := HZ.out; omega), decide_eq_false (by have := HN.out; omega)]; rfl
          · first | exact S3.out
  case rest =>
    obtain ⟨rfl, HW⟩ := hcut
    have HAW := fun (wr : World) (h : L3 w (.cells #[.string aid, .int .i64 av, .int .i64 an, .int .i64 ah, .slice WA awn awc, .slice XA amn amc] 25) (.cells #[.string bid, .int .i64 bv, .int .i64 bn, .int .i64 bh, .slice WB bwn bwc, .slice XB bmn bmc] 25) (.cells #[.int .i64 u, .int .i64 md, .int .i64 d, .string id, .int .i64 fl, .slice K kn kc, .string tx] 28) wr) => awake (HT.out.below h.below (Nat.le_refl _))
    have KAW := Lib.hid HAW
    clear HAW
    cases hbb : bb with
    | true =>
      go_wp2_with (go_at_call 10; refine (KAW.out _ HW.out).mono ?_; rintro e w2 ⟨rfl, hb2⟩)
      go_ret
      exact ⟨rfl, (HW.out.go hb2).below⟩
    | false =>
    have hbf := HBB.out.symm.trans hbb
    rw [Bool.or_eq_false_iff, decide_eq_false_iff_not, decide_eq_false_iff_not] at hbf
    have hk6 : kn ≤ 60000 := HC4.out (by have := HA3.out; have := HB3.out; have := HC3.out; omega)
    have hnm : nm.size ≤ 200 := by omega
    clear hbf hbb
    have S1 := fun (wr : World) (h : L3 w (.cells #[.string aid, .int .i64 av, .int .i64 an, .int .i64 ah, .slice WA awn awc, .slice XA amn amc] 25) (.cells #[.string bid, .int .i64 bv, .int .i64 bn, .int .i64 bh, .slice WB bwn bwc, .slice XB bmn bmc] 25) (.cells #[.int .i64 u, .int .i64 md, .int .i64 d, .string id, .int .i64 fl, .slice K kn kc, .string tx] 28) wr) => StrsAt.below HA1.out h.below (Nat.le_refl _)
    have S2 := fun (wr : World) (h : L3 w (.cells #[.string aid, .int .i64 av, .int .i64 an, .int .i64 ah, .slice WA awn awc, .slice XA amn amc] 25) (.cells #[.string bid, .int .i64 bv, .int .i64 bn, .int .i64 bh, .slice WB bwn bwc, .slice XB bmn bmc] 25) (.cells #[.int .i64 u, .int .i64 md, .int .i64 d, .string id, .int .i64 fl, .slice K kn kc, .string tx] 28) wr) => MsgsAt.below HA2.out h.below (Nat.le_refl _)
    have S3 := fun (wr : World) (h : L3 w (.cells #[.string aid, .int .i64 av, .int .i64 an, .int .i64 ah, .slice WA awn awc, .slice XA amn amc] 25) (.cells #[.string bid, .int .i64 bv, .int .i64 bn, .int .i64 bh, .slice WB bwn bwc, .slice XB bmn bmc] 25) (.cells #[.int .i64 u, .int .i64 md, .int .i64 d, .string id, .int .i64 fl, .slice K kn kc, .string tx] 28) wr) => StrsAt.below HB1.out h.below (Nat.le_refl _)
    have S4 := fun (wr : World) (h : L3 w (.cells #[.string aid, .int .i64 av, .int .i64 an, .int .i64 ah, .slice WA awn awc, .slice XA amn amc] 25) (.cells #[.string bid, .int .i64 bv, .int .i64 bn, .int .i64 bh, .slice WB bwn bwc, .slice XB bmn bmc] 25) (.cells #[.int .i64 u, .int .i64 md, .int .i64 d, .string id, .int .i64 fl, .slice K kn kc, .string tx] 28) wr) => MsgsAt.below HB2.out h.below (Nat.le_refl _)
    have S5 := fun (wr : World) (h : L3 w (.cells #[.string aid, .int .i64 av, .int .i64 an, .int .i64 ah, .slice WA awn awc, .slice XA amn amc] 25) (.cells #[.string bid, .int .i64 bv, .int .i64 bn, .int .i64 bh, .slice WB bwn bwc, .slice XB bmn bmc] 25) (.cells #[.int .i64 u, .int .i64 md, .int .i64 d, .string id, .int .i64 fl, .slice K kn kc, .string tx] 28) wr) => IntsAt.below HK.out h.below (Nat.le_refl _)
    have M1 : ∀ wr, L3 w (.cells #[.string aid, .int .i64 av, .int .i64 an, .int .i64 ah, .slice WA awn awc, .slice XA amn amc] 25) (.cells #[.string bid, .int .i64 bv, .int .i64 bn, .int .i64 bh, .slice WB bwn bwc, .slice XB bmn bmc] 25) (.cells #[.int .i64 u, .int .i64 md, .int .i64 d, .string id, .int .i64 fl, .slice K kn kc, .string tx] 28) wr → Calls Tryd.prog 11 #[.agg #[.string aid, .int .i64 av, .int .i64 an, .int .i64 ah, .slice WA awn awc, .slice XA amn amc]] wr (fun e w' => e = .returned (.int .i64 (mbE ⟨aid, av, an, ah, aws, ams⟩)) ∧ Below wr.heap.size wr w') := fun wr h => may_box (S1 wr h) (S2 wr h) h.below.size ha
    have M2 : ∀ wr, L3 w (.cells #[.string aid, .int .i64 av, .int .i64 an, .int .i64 ah, .slice WA awn awc, .slice XA amn amc] 25) (.cells #[.string bid, .int .i64 bv, .int .i64 bn, .int .i64 bh, .slice WB bwn bwc, .slice XB bmn bmc] 25) (.cells #[.int .i64 u, .int .i64 md, .int .i64 d, .string id, .int .i64 fl, .slice K kn kc, .string tx] 28) wr → Calls Tryd.prog 12 #[.agg #[.string aid, .int .i64 av, .int .i64 an, .int .i64 ah, .slice WA awn awc, .slice XA amn amc]] wr (fun e w' => e = .returned (.int .i64 (mbE ⟨aid, av, an, ah, aws, ams⟩)) ∧ Below wr.heap.size wr w') := fun wr h => ref_may (S1 wr h) (S2 wr h) h.below.size ha
    have M3 : ∀ wr, L3 w (.cells #[.string aid, .int .i64 av, .int .i64 an, .int .i64 ah, .slice WA awn awc, .slice XA amn amc] 25) (.cells #[.string bid, .int .i64 bv, .int .i64 bn, .int .i64 bh, .slice WB bwn bwc, .slice XB bmn bmc] 25) (.cells #[.int .i64 u, .int .i64 md, .int .i64 d, .string id, .int .i64 fl, .slice K kn kc, .string tx] 28) wr → Calls Tryd.prog 13 #[.agg #[.string aid, .int .i64 av, .int .i64 an, .int .i64 ah, .slice WA awn awc, .slice XA amn amc], .agg #[.int .i64 u, .int .i64 md, .int .i64 d, .string id, .int .i64 fl, .slice K kn kc, .string tx]] wr (fun e w' => e = .returned (.int .i64 (mmE awn ⟨u, md, d, id, fl, ks, tx⟩)) ∧ Below wr.heap.size wr w') := fun wr h => mayMsg_cells (S5 wr h) h.below.size (HA1.out.max)
    have M4 : ∀ wr, L3 w (.cells #[.string aid, .int .i64 av, .int .i64 an, .int .i64 ah, .slice WA awn awc, .slice XA amn amc] 25) (.cells #[.string bid, .int .i64 bv, .int .i64 bn, .int .i64 bh, .slice WB bwn bwc, .slice XB bmn bmc] 25) (.cells #[.int .i64 u, .int .i64 md, .int .i64 d, .string id, .int .i64 fl, .slice K kn kc, .string tx] 28) wr → Calls Tryd.prog 14 #[.agg #[.string aid, .int .i64 av, .int .i64 an, .int .i64 ah, .slice WA awn awc, .slice XA amn amc], .agg #[.int .i64 u, .int .i64 md, .int .i64 d, .string id, .int .i64 fl, .slice K kn kc, .string tx]] wr (fun e w' => e = .returned (.int .i64 (mmE awn ⟨u, md, d, id, fl, ks, tx⟩)) ∧ Below wr.heap.size wr w') := fun wr h => refMayMsg_cells (S5 wr h) h.below.size (HA1.out.max)
    have M5 : ∀ wr, L3 w (.cells #[.string aid, .int .i64 av, .int .i64 an, .int .i64 ah, .slice WA awn awc, .slice XA amn amc] 25) (.cells #[.string bid, .int .i64 bv, .int .i64 bn, .int .i64 bh, .slice WB bwn bwc, .slice XB bmn bmc] 25) (.cells #[.int .i64 u, .int .i64 md, .int .i64 d, .string id, .int .i64 fl, .slice K kn kc, .string tx] 28) wr → Calls Tryd.prog 15 #[.agg #[.string aid, .int .i64 av, .int .i64 an, .int .i64 ah, .slice WA awn awc, .slice XA amn amc], .agg #[.string bid, .int .i64 bv, .int .i64 bn, .int .i64 bh, .slice WB bwn bwc, .slice XB bmn bmc]] wr (fun e w' => e = .returned (.bool (eqX ⟨aid, av, an, ah, aws, ams⟩ ⟨bid, bv, bn, bh, bws, bms⟩)) ∧ Below wr.heap.size wr w') := fun wr h => same_any (S1 wr h) (S2 wr h) (S3 wr h) (S4 wr h) h.below.size h.below.size h.below.size h.below.size
    have M6 : ∀ wr, L3 w (.cells #[.string aid, .int .i64 av, .int .i64 an, .int .i64 ah, .slice WA awn awc, .slice XA amn amc] 25) (.cells #[.string bid, .int .i64 bv, .int .i64 bn, .int .i64 bh, .slice WB bwn bwc, .slice XB bmn bmc] 25) (.cells #[.int .i64 u, .int .i64 md, .int .i64 d, .string id, .int .i64 fl, .slice K kn kc, .string tx] 28) wr → Calls Tryd.prog 16 #[.agg #[.string aid, .int .i64 av, .int .i64 an, .int .i64 ah, .slice WA awn awc, .slice XA amn amc], .agg #[.string bid, .int .i64 bv, .int .i64 bn, .int .i64 bh, .slice WB bwn bwc, .slice XB bmn bmc]] wr (fun e w' => e = .returned (.bool (eqX ⟨aid, av, an, ah, aws, ams⟩ ⟨bid, bv, bn, bh, bws, bms⟩)) ∧ Below wr.heap.size wr w') := fun wr h => refSame_any (S1 wr h) (S2 wr h) (S3 wr h) (S4 wr h) h.below.size h.below.size h.below.size h.below.size
    have M7 : ∀ wr, L3 w (.cells #[.string aid, .int .i64 av, .int .i64 an, .int .i64 ah, .slice WA awn awc, .slice XA amn amc] 25) (.cells #[.string bid, .int .i64 bv, .int .i64 bn, .int .i64 bh, .slice WB bwn bwc, .slice XB bmn bmc] 25) (.cells #[.int .i64 u, .int .i64 md, .int .i64 d, .string id, .int .i64 fl, .slice K kn kc, .string tx] 28) wr → Calls Tryd.prog 17 #[.agg #[.string aid, .int .i64 av, .int .i64 an, .int .i64 ah, .slice WA awn awc, .slice XA amn amc], .int .i64 uid] wr (fun e w' => e = .returned (.int .i64 (findI ams uid)) ∧ Below wr.heap.size wr w') := fun wr h => find_any (S2 wr h) h.below.size
    have M8 : ∀ wr, L3 w (.cells #[.string aid, .int .i64 av, .int .i64 an, .int .i64 ah, .slice WA awn awc, .slice XA amn amc] 25) (.cells #[.string bid, .int .i64 bv, .int .i64 bn, .int .i64 bh, .slice WB bwn bwc, .slice XB bmn bmc] 25) (.cells #[.int .i64 u, .int .i64 md, .int .i64 d, .string id, .int .i64 fl, .slice K kn kc, .string tx] 28) wr → Calls Tryd.prog 18 #[.agg #[.string aid, .int .i64 av, .int .i64 an, .int .i64 ah, .slice WA awn awc, .slice XA amn amc], .int .i64 uid] wr (fun e w' => e = .returned (.int .i64 (findI ams uid)) ∧ Below wr.heap.size wr w') := fun wr h => refFind_any (S2 wr h) h.below.size
    have M9 : ∀ wr, L3 w (.cells #[.string aid, .int .i64 av, .int .i64 an, .int .i64 ah, .slice WA awn awc, .slice XA amn amc] 25) (.cells #[.string bid, .int .i64 bv, .int .i64 bn, .int .i64 bh, .slice WB bwn bwc, .slice XB bmn bmc] 25) (.cells #[.int .i64 u, .int .i64 md, .int .i64 d, .string id, .int .i64 fl, .slice K kn kc, .string tx] 28) wr → Calls Tryd.prog 19 #[.string nm, .int .i64 uid] wr (fun e w' => e = .returned (.string (ownT nm uid)) ∧ Below wr.heap.size wr w') := fun wr h => own_any (HT.out.below h.below (Nat.le_refl _)) hu hnm
    have M10 : ∀ wr, L3 w (.cells #[.string aid, .int .i64 av, .int .i64 an, .int .i64 ah, .slice WA awn awc, .slice XA amn amc] 25) (.cells #[.string bid, .int .i64 bv, .int .i64 bn, .int .i64 bh, .slice WB bwn bwc, .slice XB bmn bmc] 25) (.cells #[.int .i64 u, .int .i64 md, .int .i64 d, .string id, .int .i64 fl, .slice K kn kc, .string tx] 28) wr → Calls Tryd.prog 20 #[.string nm, .int .i64 uid] wr (fun e w' => e = .returned (.string (ownT nm uid)) ∧ Below wr.heap.size wr w') := fun wr h => refOwn_any (HT.out.below h.below (Nat.le_refl _)) hu hnm
    have M11 : ∀ wr, L3 w (.cells #[.string aid, .int .i64 av, .int .i64 an, .int .i64 ah, .slice WA awn awc, .slice XA amn amc] 25) (.cells #[.string bid, .int .i64 bv, .int .i64 bn, .int .i64 bh, .slice WB bwn bwc, .slice XB bmn bmc] 25) (.cells #[.int .i64 u, .int .i64 md, .int .i64 d, .string id, .int .i64 fl, .slice K kn kc, .string tx] 28) wr → Calls Tryd.prog 22 #[.agg #[.string aid, .int .i64 av, .int .i64 an, .int .i64 ah, .slice WA awn awc, .slice XA amn amc], .agg #[.int .i64 u, .int .i64 md, .int .i64 d, .string id, .int .i64 fl, .slice K kn kc, .string tx]] wr (WdPost (wordsOf aws ks) wr) := fun wr h => words_any (S1 wr h) (S5 wr h) h.below.size h.below.size hk6
    have M12 : ∀ wr, L3 w (.cells #[.string aid, .int .i64 av, .int .i64 an, .int .i64 ah, .slice WA awn awc, .slice XA amn amc] 25) (.cells #[.string bid, .int .i64 bv, .int .i64 bn, .int .i64 bh, .slice WB bwn bwc, .slice XB bmn bmc] 25) (.cells #[.int .i64 u, .int .i64 md, .int .i64 d, .string id, .int .i64 fl, .slice K kn kc, .string tx] 28) wr → Calls Tryd.prog 23 #[.agg #[.string aid, .int .i64 av, .int .i64 an, .int .i64 ah, .slice WA awn awc, .slice XA amn amc], .agg #[.int .i64 u, .int .i64 md, .int .i64 d, .string id, .int .i64 fl, .slice K kn kc, .string tx]] wr (WdPost (wordsOf aws ks) wr) := fun wr h => refWords_any (S1 wr h) (S5 wr h) h.below.size h.below.size hk6
    have M14 : ∀ wr, L3 w (.cells #[.string aid, .int .i64 av, .int .i64 an, .int .i64 ah, .slice WA awn awc, .slice XA amn amc] 25) (.cells #[.string bid, .int .i64 bv, .int .i64 bn, .int .i64 bh, .slice WB bwn bwc, .slice XB bmn bmc] 25) (.cells #[.int .i64 u, .int .i64 md, .int .i64 d, .string id, .int .i64 fl, .slice K kn kc, .string tx] 28) wr → Calls Tryd.prog 24 #[.agg #[.string aid, .int .i64 av, .int .i64 an, .int .i64 ah, .slice WA awn awc, .slice XA amn amc]] wr (fun e w' => e = .returned (.int .i64 (unI ams)) ∧ Below wr.heap.size wr w') := fun wr h => unseen_any (S2 wr h) h.below.size
    have M15 : ∀ wr, L3 w (.cells #[.string aid, .int .i64 av, .int .i64 an, .int .i64 ah, .slice WA awn awc, .slice XA amn amc] 25) (.cells #[.string bid, .int .i64 bv, .int .i64 bn, .int .i64 bh, .slice WB bwn bwc, .slice XB bmn bmc] 25) (.cells #[.int .i64 u, .int .i64 md, .int .i64 d, .string id, .int .i64 fl, .slice K kn kc, .string tx] 28) wr → Calls Tryd.prog 25 #[.agg #[.string aid, .int .i64 av, .int .i64 an, .int .i64 ah, .slice WA awn awc, .slice XA amn amc]] wr (fun e w' => e = .returned (.int .i64 (unI ams)) ∧ Below wr.heap.size wr w') := fun wr h => refUnseen_any (S2 wr h) h.below.size
    have M17 : ∀ wr, L3 w (.cells #[.string aid, .int .i64 av, .int .i64 an, .int .i64 ah, .slice WA awn awc, .slice XA amn amc] 25) (.cells #[.string bid, .int .i64 bv, .int .i64 bn, .int .i64 bh, .slice WB bwn bwc, .slice XB bmn bmc] 25) (.cells #[.int .i64 u, .int .i64 md, .int .i64 d, .string id, .int .i64 fl, .slice K kn kc, .string tx] 28) wr → Calls Tryd.prog 16 #[.agg #[.string nm, .int .i64 uid, .int .i64 1, .int .i64 1, .slice none 0 0, .slice none 0 0], .agg #[.string nm, .int .i64 uid, .int .i64 1, .int .i64 1, .slice none 0 0, .slice none 0 0]] wr (fun e w' => e = .returned (.bool true) ∧ Below wr.heap.size wr w') := fun wr h => by
      rw [← eqX_eq (a := ⟨nm, uid, 1, 1, [], []⟩) rfl]
      exact refSame_any (RowAt.nil strC 1 wr 0 none) (RowAt.nil msgC 7 wr 0 none) (RowAt.nil strC 1 wr 0 none) (RowAt.nil msgC 7 wr 0 none) (Nat.zero_le _) (Nat.zero_le _) (Nat.zero_le _) (Nat.zero_le _)
    generalize mbE ⟨aid, av, an, ah, aws, ams⟩ = r1 at M1 M2
    generalize mmE awn ⟨u, md, d, id, fl, ks, tx⟩ = r2 at M3 M4
    generalize eqX ⟨aid, av, an, ah, aws, ams⟩ ⟨bid, bv, bn, bh, bws, bms⟩ = r3 at M5 M6
    generalize findI ams uid = r4 at M7 M8
    generalize ownT nm uid = r5 at M9 M10
    generalize wordsOf aws ks = r6 at M11 M12
    generalize (unI ams : Int) = r7 at M14 M15
    clear S1 S2 S3 S4 S5
    have K1 := Lib.hid M1
    have K2 := Lib.hid M2
    have K3 := Lib.hid M3
    have K4 := Lib.hid M4
    have K5 := Lib.hid M5
    have K6 := Lib.hid M6
    have K7 := Lib.hid M7
    have K8 := Lib.hid M8
    have K9 := Lib.hid M9
    have K10 := Lib.hid M10
    have K11 := Lib.hid M11
    have K12 := Lib.hid M12
    have K14 := Lib.hid M14
    have K15 := Lib.hid M15
    have K17 := Lib.hid M17
    clear M1 M2 M3 M4 M5 M6 M7 M8 M9 M10 M11 M12 M14 M15 M17
    have H0 := Lib.hid HW.out
    obtain ⟨a0, a1, a2, a3, a4, a5, b0, b1, b2, b3, b4, b5, m0, m1, m2, m3, m4, m5, m6⟩ := H0.out.facts
    go_wp2_with fail
    go_upto_region 3 with (fail)
    dsimp only [List.append]
    go_region_held3 (fun wr => wr.cell? { block := w.heap.size, off := 0 } = some (.string aid) ∧ wr.cell? { block := w.heap.size, off := 1 } = some (.int .i64 av) ∧ wr.cell? { block := w.heap.size, off := 2 } = some (.int .i64 an) ∧ wr.cell? { block := w.heap.size, off := 3 } = some (.int .i64 ah) ∧ wr.cell? { block := w.heap.size, off := 4 } = some (.slice WA awn awc) ∧ wr.cell? { block := w.heap.size, off := 5 } = some (.slice XA amn amc) ∧ wr.cell? { block := w.heap.size + 1, off := 0 } = some (.string bid) ∧ wr.cell? { block := w.heap.size + 1, off := 1 } = some (.int .i64 bv) ∧ wr.cell? { block := w.heap.size + 1, off := 2 } = some (.int .i64 bn) ∧ wr.cell? { block := w.heap.size + 1, off := 3 } = some (.int .i64 bh) ∧ wr.cell? { block := w.heap.size + 1, off := 4 } = some (.slice WB bwn bwc) ∧ wr.cell? { block := w.heap.size + 1, off := 5 } = some (.slice XB bmn bmc) ∧ wr.cell? { block := w.heap.size + 1 + 1, off := 0 } = some (.int .i64 u) ∧ wr.cell? { block := w.heap.size + 1 + 1, off := 1 } = some (.int .i64 md) ∧ wr.cell? { block := w.heap.size + 1 + 1, off := 2 } = some (.int .i64 d) ∧ wr.cell? { block := w.heap.size + 1 + 1, off := 3 } = some (.string id) ∧ wr.cell? { block := w.heap.size + 1 + 1, off := 4 } = some (.int .i64 fl) ∧ wr.cell? { block := w.heap.size + 1 + 1, off := 5 } = some (.slice K kn kc) ∧ wr.cell? { block := w.heap.size + 1 + 1, off := 6 } = some (.string tx)) (first | exact H0.out.facts | exact H1.out.facts | exact H2.out.facts | exact H3.out.facts | exact H4.out.facts | exact H5.out.facts | exact H6.out.facts | exact H7.out.facts | exact H8.out.facts | exact H9.out.facts | exact H10.out.facts | exact H11.out.facts | exact H12.out.facts | exact H13.out.facts | exact H14.out.facts | exact H15.out.facts | exact H16.out.facts | exact H17.out.facts | exact H18.out.facts | exact (H0.out.drew1).facts | exact (H0.out.drew _).facts | go_keep) (first
      | (go_at_call 11
         ((with_reducible refine (K1.out _ ?d1).mono ?_); rotate_left)
         case d1 => first | exact H0.out | exact H0.out.drew1 | exact H0.out.drew _
         rintro e v1 ⟨rfl, hb1⟩
         have H1 := Lib.hid (show L3 w (.cells #[.string aid, .int .i64 av, .int .i64 an, .int .i64 ah, .slice WA awn awc, .slice XA amn amc] 25) (.cells #[.string bid, .int .i64 bv, .int .i64 bn, .int .i64 bh, .slice WB bwn bwc, .slice XB bmn bmc] 25) (.cells #[.int .i64 u, .int .i64 md, .int .i64 d, .string id, .int .i64 fl, .slice K kn kc, .string tx] 28) v1 by first | exact H0.out.go hb1 | exact (H0.out.drew1).go hb1 | exact (H0.out.drew _).go hb1)
         dsimp only)
      | (go_at_call 12
         ((with_reducible refine (K2.out _ ?d2).mono ?_); rotate_left)
         case d2 => first | exact H1.out | exact H1.out.drew1 | exact H1.out.drew _
         rintro e v2 ⟨rfl, hb2⟩
         have H2 := Lib.hid (show L3 w (.cells #[.string aid, .int .i64 av, .int .i64 an, .int .i64 ah, .slice WA awn awc, .slice XA amn amc] 25) (.cells #[.string bid, .int .i64 bv, .int .i64 bn, .int .i64 bh, .slice WB bwn bwc, .slice XB bmn bmc] 25) (.cells #[.int .i64 u, .int .i64 md, .int .i64 d, .string id, .int .i64 fl, .slice K kn kc, .string tx] 28) v2 by first | exact H1.out.go hb2 | exact (H1.out.drew1).go hb2 | exact (H1.out.drew _).go hb2)
         dsimp only)
      | (go_at_call 13
         ((with_reducible refine (K3.out _ ?d3).mono ?_); rotate_left)
         case d3 => first | exact H2.out | exact H2.out.drew1 | exact H2.out.drew _
         rintro e v3 ⟨rfl, hb3⟩
         have H3 := Lib.hid (show L3 w (.cells #[.string aid, .int .i64 av, .int .i64 an, .int .i64 ah, .slice WA awn awc, .slice XA amn amc] 25) (.cells #[.string bid, .int .i64 bv, .int .i64 bn, .int .i64 bh, .slice WB bwn bwc, .slice XB bmn bmc] 25) (.cells #[.int .i64 u, .int .i64 md, .int .i64 d, .string id, .int .i64 fl, .slice K kn kc, .string tx] 28) v3 by first | exact H2.out.go hb3 | exact (H2.out.drew1).go hb3 | exact (H2.out.drew _).go hb3)
         dsimp only)
      | (go_at_call 14
         ((with_reducible refine (K4.out _ ?d4).mono ?_); rotate_left)
         case d4 => first | exact H3.out | exact H3.out.drew1 | exact H3.out.drew _
         rintro e v4 ⟨rfl, hb4⟩
         have H4 := Lib.hid (show L3 w (.cells #[.string aid, .int .i64 av, .int .i64 an, .int .i64 ah, .slice WA awn awc, .slice XA amn amc] 25) (.cells #[.string bid, .int .i64 bv, .int .i64 bn, .int .i64 bh, .slice WB bwn bwc, .slice XB bmn bmc] 25) (.cells #[.int .i64 u, .int .i64 md, .int .i64 d, .string id, .int .i64 fl, .slice K kn kc, .string tx] 28) v4 by first | exact H3.out.go hb4 | exact (H3.out.drew1).go hb4 | exact (H3.out.drew _).go hb4)
         dsimp only)
      | (go_at_call 15
         ((with_reducible refine (K5.out _ ?d5).mono ?_); rotate_left)
         case d5 => first | exact H4.out | exact H4.out.drew1 | exact H4.out.drew _
         rintro e v5 ⟨rfl, hb5⟩
         have H5 := Lib.hid (show L3 w (.cells #[.string aid, .int .i64 av, .int .i64 an, .int .i64 ah, .slice WA awn awc, .slice XA amn amc] 25) (.cells #[.string bid, .int .i64 bv, .int .i64 bn, .int .i64 bh, .slice WB bwn bwc, .slice XB bmn bmc] 25) (.cells #[.int .i64 u, .int .i64 md, .int .i64 d, .string id, .int .i64 fl, .slice K kn kc, .string tx] 28) v5 by first | exact H4.out.go hb5 | exact (H4.out.drew1).go hb5 | exact (H4.out.drew _).go hb5)
         dsimp only)
      | (go_at_call 16
         ((with_reducible refine (K6.out _ ?d6).mono ?_); rotate_left)
         case d6 => first | exact H5.out | exact H5.out.drew1 | exact H5.out.drew _
         rintro e v6 ⟨rfl, hb6⟩
         have H6 := Lib.hid (show L3 w (.cells #[.string aid, .int .i64 av, .int .i64 an, .int .i64 ah, .slice WA awn awc, .slice XA amn amc] 25) (.cells #[.string bid, .int .i64 bv, .int .i64 bn, .int .i64 bh, .slice WB bwn bwc, .slice XB bmn bmc] 25) (.cells #[.int .i64 u, .int .i64 md, .int .i64 d, .string id, .int .i64 fl, .slice K kn kc, .string tx] 28) v6 by first | exact H5.out.go hb6 | exact (H5.out.drew1).go hb6 | exact (H5.out.drew _).go hb6)
         dsimp only)
      | (go_at_call 17
         ((with_reducible refine (K7.out _ ?d7).mono ?_); rotate_left)
         case d7 => first | exact H6.out | exact H6.out.drew1 | exact H6.out.drew _
         rintro e v7 ⟨rfl, hb7⟩
         have H7 := Lib.hid (show L3 w (.cells #[.string aid, .int .i64 av, .int .i64 an, .int .i64 ah, .slice WA awn awc, .slice XA amn amc] 25) (.cells #[.string bid, .int .i64 bv, .int .i64 bn, .int .i64 bh, .slice WB bwn bwc, .slice XB bmn bmc] 25) (.cells #[.int .i64 u, .int .i64 md, .int .i64 d, .string id, .int .i64 fl, .slice K kn kc, .string tx] 28) v7 by first | exact H6.out.go hb7 | exact (H6.out.drew1).go hb7 | exact (H6.out.drew _).go hb7)
         dsimp only)
      | (go_at_call 18
         ((with_reducible refine (K8.out _ ?d8).mono ?_); rotate_left)
         case d8 => first | exact H7.out | exact H7.out.drew1 | exact H7.out.drew _
         rintro e v8 ⟨rfl, hb8⟩
         have H8 := Lib.hid (show L3 w (.cells #[.string aid, .int .i64 av, .int .i64 an, .int .i64 ah, .slice WA awn awc, .slice XA amn amc] 25) (.cells #[.string bid, .int .i64 bv, .int .i64 bn, .int .i64 bh, .slice WB bwn bwc, .slice XB bmn bmc] 25) (.cells #[.int .i64 u, .int .i64 md, .int .i64 d, .string id, .int .i64 fl, .slice K kn kc, .string tx] 28) v8 by first | exact H7.out.go hb8 | exact (H7.out.drew1).go hb8 | exact (H7.out.drew _).go hb8)
         dsimp only)
      | (go_at_call 19
         ((with_reducible refine (K9.out _ ?d9).mono ?_); rotate_left)
         case d9 => first | exact H8.out | exact H8.out.drew1 | exact H8.out.drew _
         rintro e v9 ⟨rfl, hb9⟩
         have H9 := Lib.hid (show L3 w (.cells #[.string aid, .int .i64 av, .int .i64 an, .int .i64 ah, .slice WA awn awc, .slice XA amn amc] 25) (.cells #[.string bid, .int .i64 bv, .int .i64 bn, .int .i64 bh, .slice WB bwn bwc, .slice XB bmn bmc] 25) (.cells #[.int .i64 u, .int .i64 md, .int .i64 d, .string id, .int .i64 fl, .slice K kn kc, .string tx] 28) v9 by first | exact H8.out.go hb9 | exact (H8.out.drew1).go hb9 | exact (H8.out.drew _).go hb9)
         dsimp only)
      | (go_at_call 20
         ((with_reducible refine (K10.out _ ?d10).mono ?_); rotate_left)
         case d10 => first | exact H9.out | exact H9.out.drew1 | exact H9.out.drew _
         rintro e v10 ⟨rfl, hb10⟩
         have H10 := Lib.hid (show L3 w (.cells #[.string aid, .int .i64 av, .int .i64 an, .int .i64 ah, .slice WA awn awc, .slice XA amn amc] 25) (.cells #[.string bid, .int .i64 bv, .int .i64 bn, .int .i64 bh, .slice WB bwn bwc, .slice XB bmn bmc] 25) (.cells #[.int .i64 u, .int .i64 md, .int .i64 d, .string id, .int .i64 fl, .slice K kn kc, .string tx] 28) v10 by first | exact H9.out.go hb10 | exact (H9.out.drew1).go hb10 | exact (H9.out.drew _).go hb10)
         dsimp only)
      | (go_at_call 22
         ((with_reducible refine (K11.out _ ?d11).mono ?_); rotate_left)
         case d11 => first | exact H10.out | exact H10.out.drew1 | exact H10.out.drew _
         rintro e v11 ⟨A1, n1, c1, rfl, hn1, hs1, hb11⟩
         have H11 := Lib.hid (show L3 w (.cells #[.string aid, .int .i64 av, .int .i64 an, .int .i64 ah, .slice WA awn awc, .slice XA amn amc] 25) (.cells #[.string bid, .int .i64 bv, .int .i64 bn, .int .i64 bh, .slice WB bwn bwc, .slice XB bmn bmc] 25) (.cells #[.int .i64 u, .int .i64 md, .int .i64 d, .string id, .int .i64 fl, .slice K kn kc, .string tx] 28) v11 by first | exact H10.out.go hb11 | exact (H10.out.drew1).go hb11 | exact (H10.out.drew _).go hb11)
         have HS1 := Lib.hid hs1
         clear hs1 hn1
         dsimp only)
      | (go_at_call 23
         ((with_reducible refine (K12.out _ ?d12).mono ?_); rotate_left)
         case d12 => first | exact H11.out | exact H11.out.drew1 | exact H11.out.drew _
         rintro e v12 ⟨A2, n2, c2, rfl, hn2, hs2, hb12⟩
         have H12 := Lib.hid (show L3 w (.cells #[.string aid, .int .i64 av, .int .i64 an, .int .i64 ah, .slice WA awn awc, .slice XA amn amc] 25) (.cells #[.string bid, .int .i64 bv, .int .i64 bn, .int .i64 bh, .slice WB bwn bwc, .slice XB bmn bmc] 25) (.cells #[.int .i64 u, .int .i64 md, .int .i64 d, .string id, .int .i64 fl, .slice K kn kc, .string tx] 28) v12 by first | exact H11.out.go hb12 | exact (H11.out.drew1).go hb12 | exact (H11.out.drew _).go hb12)
         have K13 := Lib.hid (two_rows (c1 := c1) (c2 := c2) (StrsAt.below HS1.out hb12 (Nat.le_refl _)) hs2)
         clear hs2 hn2
         dsimp only)
      | (go_at_call 21
         refine K13.out.mono ?_
         rintro e v13 ⟨rfl, hb13⟩
         have H13 := Lib.hid (H12.out.go (hb13.below _))
         dsimp only)
      | (go_at_call 24
         ((with_reducible refine (K14.out _ ?d14).mono ?_); rotate_left)
         case d14 => first | exact H13.out | exact H13.out.drew1 | exact H13.out.drew _
         rintro e v14 ⟨rfl, hb14⟩
         have H14 := Lib.hid (show L3 w (.cells #[.string aid, .int .i64 av, .int .i64 an, .int .i64 ah, .slice WA awn awc, .slice XA amn amc] 25) (.cells #[.string bid, .int .i64 bv, .int .i64 bn, .int .i64 bh, .slice WB bwn bwc, .slice XB bmn bmc] 25) (.cells #[.int .i64 u, .int .i64 md, .int .i64 d, .string id, .int .i64 fl, .slice K kn kc, .string tx] 28) v14 by first | exact H13.out.go hb14 | exact (H13.out.drew1).go hb14 | exact (H13.out.drew _).go hb14)
         dsimp only)
      | (go_at_call 25
         ((with_reducible refine (K15.out _ ?d15).mono ?_); rotate_left)
         case d15 => first | exact H14.out | exact H14.out.drew1 | exact H14.out.drew _
         rintro e v15 ⟨rfl, hb15⟩
         have H15 := Lib.hid (show L3 w (.cells #[.string aid, .int .i64 av, .int .i64 an, .int .i64 ah, .slice WA awn awc, .slice XA amn amc] 25) (.cells #[.string bid, .int .i64 bv, .int .i64 bn, .int .i64 bh, .slice WB bwn bwc, .slice XB bmn bmc] 25) (.cells #[.int .i64 u, .int .i64 md, .int .i64 d, .string id, .int .i64 fl, .slice K kn kc, .string tx] 28) v15 by first | exact H14.out.go hb15 | exact (H14.out.drew1).go hb15 | exact (H14.out.drew _).go hb15)
         dsimp only)
      | (go_at_call 26
         refine (empty_any _ _ _).mono ?_
         rintro e v16 ⟨rfl, hb16⟩
         have H16 := Lib.hid (show L3 w (.cells #[.string aid, .int .i64 av, .int .i64 an, .int .i64 ah, .slice WA awn awc, .slice XA amn amc] 25) (.cells #[.string bid, .int .i64 bv, .int .i64 bn, .int .i64 bh, .slice WB bwn bwc, .slice XB bmn bmc] 25) (.cells #[.int .i64 u, .int .i64 md, .int .i64 d, .string id, .int .i64 fl, .slice K kn kc, .string tx] 28) v16 by first | exact H15.out.go hb16 | exact (H15.out.drew1).go hb16 | exact (H15.out.drew _).go hb16)
         dsimp only)
      | (go_at_call 16
         ((with_reducible refine (K17.out _ ?d17).mono ?_); rotate_left)
         case d17 => first | exact H16.out | exact H16.out.drew1 | exact H16.out.drew _
         rintro e v17 ⟨rfl, hb17⟩
         have H17 := Lib.hid (show L3 w (.cells #[.string aid, .int .i64 av, .int .i64 an, .int .i64 ah, .slice WA awn awc, .slice XA amn amc] 25) (.cells #[.string bid, .int .i64 bv, .int .i64 bn, .int .i64 bh, .slice WB bwn bwc, .slice XB bmn bmc] 25) (.cells #[.int .i64 u, .int .i64 md, .int .i64 d, .string id, .int .i64 fl, .slice K kn kc, .string tx] 28) v17 by first | exact H16.out.go hb17 | exact (H16.out.drew1).go hb17 | exact (H16.out.drew _).go hb17)
         dsimp only)
      | (go_at_call 10
         ((with_reducible refine (KAW.out _ ?d18).mono ?_); rotate_left)
         case d18 => first | exact H17.out | exact H17.out.drew1 | exact H17.out.drew _
         rintro e v18 ⟨rfl, hb18⟩
         have H18 := Lib.hid (show L3 w (.cells #[.string aid, .int .i64 av, .int .i64 an, .int .i64 ah, .slice WA awn awc, .slice XA amn amc] 25) (.cells #[.string bid, .int .i64 bv, .int .i64 bn, .int .i64 bh, .slice WB bwn bwc, .slice XB bmn bmc] 25) (.cells #[.int .i64 u, .int .i64 md, .int .i64 d, .string id, .int .i64 fl, .slice K kn kc, .string tx] 28) v18 by first | exact H17.out.go hb18 | exact (H17.out.drew1).go hb18 | exact (H17.out.drew _).go hb18)
         dsimp only))
    go_wp2_with fail
    go_ret
    exact ⟨rfl, H18.out.below⟩
end Go.Proofs.YtabcfhjfdkbhaaaDoor.BxForms
