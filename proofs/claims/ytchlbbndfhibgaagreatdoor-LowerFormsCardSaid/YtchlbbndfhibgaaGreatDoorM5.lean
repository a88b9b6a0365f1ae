/-
  LwX + LwR + LwG
-/
import Derived.Test.YtchlbbndfhibgaaGreatDoorM1
import Derived.Test.YtchlbbndfhibgaaGreatDoorK6
import Derived.Test.YtchlbbndfhibgaaGreatDoorM2
set_option linter.unusedVariables false
set_option linter.unusedSimpArgs false
namespace Go.Proofs.YtchlbbndfhibgaaGreatDoor.LwX
open Go.RowKit Go.Proofs.YtchlbbndfhibgaaGreatDoor.BxD Go.Proofs.YtchlbbndfhibgaaGreatDoor.BxOp Go.Proofs.YtchlbbndfhibgaaGreatDoor.OlD Go.Proofs.YtchlbbndfhibgaaGreatDoor.RwD Go.Proofs.YtchlbbndfhibgaaGreatDoor.ImD Go.Proofs.YtchlbbndfhibgaaGreatDoor.ImL Go.Proofs.YtchlbbndfhibgaaGreatDoor.LwD Go.Proofs.YtchlbbndfhibgaaGreatDoor.LwT

/-- What the document's rest tells of a message, where Mods are told beside flags, too. -/
def reD (f : Fm) (m : Msg) : List Row := if f.c = false ∧ m.mod ≠ 1 ∧ flM f m = true then [r6 m] else []
def rxM (f : Fm) (id : ByteArray) (m : Msg) : List Row := reA f m ++ (reD f m ++ (reB f id m ++ reC f m))
def rx (f : Fm) (b : Box) : List Row := reH f b ++ (reW f b ++ b.msgs.flatMap (rxM f b.id))
def lsR (ws : List ByteArray) (r : Row) : Los := ⟨r.kind, r.uid, lostT ws r⟩
theorem rxM_ls (f : Fm) (b : Box) (m : Msg) : (rxM f b.id m).map (lsR b.words) = lsM f b m := by
  rw [lsM_eq]
  unfold rxM reA reB reC reD
  rw [List.map_append, List.map_append, List.map_append]
  cases hf : flM f m
  · by_cases h1 : f.n = false ∧ m.id ≠ ownT b.id m.uid <;> by_cases h2 : f.c = false ∧ m.mod ≠ 1 <;> simp [h1, h2, lsR, lostT, r2, r5, r6]
  · by_cases h1 : f.n = false ∧ m.id ≠ ownT b.id m.uid <;> by_cases h2 : f.c = false ∧ m.mod ≠ 1 <;> simp [h1, h2, lsR, lostT, r2, r5, r6]
theorem rx_ls (f : Fm) (b : Box) : (rx f b).map (lsR b.words) = ls f b := by
  rw [ls_parts]
  unfold rx
  rw [List.map_append, List.map_append]
  congr 1
  · rw [lsH_eq]
    unfold reH
    split <;> simp [lsR, lostT, r7]
  · congr 1
    · rw [lsW_eq]
      unfold reW
      rw [List.map_map]
      exact List.map_congr_left fun s _ => by simp [lsR, lostT, r4]
    · rw [List.map_flatMap]
      induction b.msgs with
      | nil => rfl
      | cons m l ih => rw [List.flatMap_cons, List.flatMap_cons, ih, rxM_ls]
theorem rx_three {b : Box} (h : mbE b = 0) : rx fm3 b = [] := by
  have h2 : (rx fm3 b).map (lsR b.words) = [] := by rw [rx_ls]; unfold ls; rw [re_three h]; rfl
  exact List.map_eq_nil_iff.1 h2
theorem rxM_len (f : Fm) (id : ByteArray) (m : Msg) : (rxM f id m).length ≤ 3 := by
  unfold rxM reA reB reC reD
  cases flM f m
  · simp; split <;> split <;> simp
  · simp; split <;> split <;> simp
theorem rx_len {f : Fm} {b : Box} (hf : Is f) (h : mbE b = 0) : (rx f b).length ≤ 306 := by
  have := congrArg List.length (rx_ls f b)
  rw [List.length_map] at this
  rw [this]
  exact ls_len hf h
/-- Do the keys, which rise, end from the 33rd on? -/
theorem last_flM {f : Fm} {m : Msg} {n : Nat} (h : keysB m.keys n = true) : flM f m = (decide (0 < m.keys.length) && decide ((f.w : Int) ≤ m.keys.getD (m.keys.length - 1) 0)) := by
  obtain ⟨hr, _⟩ := keysB_rise h
  unfold flM
  generalize m.keys = l at hr
  cases hl : l.length with
  | zero => have : l = [] := List.eq_nil_of_length_eq_zero hl; subst this; rfl
  | succ q =>
    have hq : q < l.length := by omega
    rw [decide_eq_true (Nat.succ_pos q), Bool.true_and, Nat.add_sub_cancel, List.getD_eq_getElem?_getD, List.getElem?_eq_getElem hq]
    show _ = decide ((f.w : Int) ≤ l[q])
    by_cases hw : (f.w : Int) ≤ l[q]
    · rw [decide_eq_true hw]
      exact List.any_eq_true.2 ⟨l[q], List.getElem_mem hq, decide_eq_true hw⟩
    · rw [decide_eq_false hw, List.any_eq_false]
      intro x hx hd
      obtain ⟨j, hj, rfl⟩ := List.mem_iff_getElem.1 hx
      have hd := of_decide_eq_true hd
      rcases Nat.lt_or_ge j q with h1 | h1
      · have := List.pairwise_iff_getElem.1 hr j q hj hq h1
        omega
      · have : j = q := by omega
        subst this
        exact hw hd
theorem str_ne (a b : ByteArray) : (!(a.toList == b.toList)) = decide (a ≠ b) := by
  rw [ByteArray.toList_eq, ByteArray.toList_eq]
  by_cases h : a = b
  · subst h; simp
  · have : (a.data.toList == b.data.toList) = false := beq_eq_false_iff_ne.2 fun e => h (ByteArray.ext (Array.toList_inj.1 e))
    rw [this, decide_eq_true h]
    rfl
/-- The document's line of a loss is the program's. -/
def msgR (wt : ByteArray) (u : Int) (tx : ByteArray) : ByteArray := ((wt ++ digT u) ++ ⟨#[32]⟩) ++ tx
theorem msgR_eq (a : ByteArray) (u : Int) (tx : ByteArray) : msgR (a ++ ⟨#[32]⟩) u tx = msgT a u tx := rfl
end Go.Proofs.YtchlbbndfhibgaaGreatDoor.LwX

namespace Go.Proofs.YtchlbbndfhibgaaGreatDoor.LwR
open Go.RowKit Go.Proofs.YtchlbbndfhibgaaGreatDoor.BxD Go.Proofs.YtchlbbndfhibgaaGreatDoor.BxKit Go.Proofs.YtchlbbndfhibgaaGreatDoor.BxR Go.Proofs.YtchlbbndfhibgaaGreatDoor.BxC Go.Proofs.YtchlbbndfhibgaaGreatDoor.OlD Go.Proofs.YtchlbbndfhibgaaGreatDoor.RwD Go.Proofs.YtchlbbndfhibgaaGreatDoor.RwKit Go.Proofs.YtchlbbndfhibgaaGreatDoor.RwRo Go.Proofs.YtchlbbndfhibgaaGreatDoor.ImD Go.Proofs.YtchlbbndfhibgaaGreatDoor.ImK Go.Proofs.YtchlbbndfhibgaaGreatDoor.ImL Go.Proofs.YtchlbbndfhibgaaGreatDoor.LwD Go.Proofs.YtchlbbndfhibgaaGreatDoor.LwX

/-- While the rest is told: the box's block, the rows so far. -/
structure RQ (w wr : World) (M : Array Value) (A : Option Addr) (n c : Nat) (rs : List RRaw) : Prop where
  bel : Below w.heap.size w wr
  mb : wr.heap[w.heap.size]? = some (.cells M 25 (0, 0))
  rs : RS wr (w.heap.size + 1) A n c rs
section
variable {w wr w2 w3 : World} {M C : Array Value} {L : Nat} {A A' : Option Addr} {n c c' : Nat} {rs : List RRaw}
theorem RQ.size (h : RQ w wr M A n c rs) : w.heap.size + 1 ≤ wr.heap.size := (Array.getElem?_eq_some_iff.1 h.mb).1
theorem RQ.go (h : RQ w wr M A n c rs) (hb : Below wr.heap.size wr w2) : RQ w w2 M A n c rs := by
  have hs := h.size
  exact ⟨h.bel.trans (hb.mono h.bel.size), (hb.block _ (by omega)).trans h.mb, h.rs.go hb⟩
theorem RQ.alloc (h : RQ w wr M A n c rs) (o : Obj) : RQ w (wr.alloc o) M A n c rs := h.go ((Below.refl _ _).alloc (Nat.le_refl _) o)
theorem RQ.app (h : RQ w wr M A n c rs) {q : RRaw} (hk : wr.ownsRow (w.heap.size + 1) 3 1 (.slice q.K q.r.msg.keys.length q.c) q.r.msg.keys.length (q.r.msg.keys.map (Value.int .i64)))
    (hz : q.r.msg.keys.length ≤ 64 ∧ q.r.msg.id.size ≤ 300 ∧ q.r.msg.text.size ≤ 300 ∧ q.r.text.size ≤ 300)
    (ho : w3.ownsRow (w.heap.size + 1) 76 11 (.slice A' (n + 1) c') (n + 1) (rc (rs ++ [q]))) (hgr : wr.grownBy w3 (Value.slice A n c).ownBlock) : RQ w w3 M A' (n + 1) c' (rs ++ [q]) := by
  have hs := h.size
  have hb := h.rs.bel hgr hs
  refine ⟨h.bel.trans (hb.mono (by omega)), (hb.block _ (by omega)).trans h.mb, h.rs.app (fun r hr => ?_) (fun r hr => ?_) rfl ho hgr⟩
  · obtain rfl := List.mem_singleton.1 hr; exact hk
  · obtain rfl := List.mem_singleton.1 hr; exact hz
theorem RQ.start (w : World) (M : Array Value) : RQ w (w.alloc (.cells M 25)) M none 0 0 [] := ⟨(Below.refl _ _).alloc (Nat.le_refl _) _, heap_alloc_new w _, RS.nil _ _⟩
theorem RQ.low (h : RQ w wr M A n c rs) : RS wr w.heap.size A n c rs := h.rs.base (by omega)
/-- And a message's block. -/
structure RL (w wr : World) (M : Array Value) (L : Nat) (C : Array Value) (A : Option Addr) (n c : Nat) (rs : List RRaw) : Prop where
  q : RQ w wr M A n c rs
  ml : wr.heap[L]? = some (.cells C 28 (0, 0))
theorem RL.lt (h : RL w wr M L C A n c rs) : L < wr.heap.size := (Array.getElem?_eq_some_iff.1 h.ml).1
theorem RL.go (h : RL w wr M L C A n c rs) (hb : Below wr.heap.size wr w2) : RL w w2 M L C A n c rs := ⟨h.q.go hb, (hb.block _ h.lt).trans h.ml⟩
theorem RL.alloc (h : RL w wr M L C A n c rs) (o : Obj) : RL w (wr.alloc o) M L C A n c rs := h.go ((Below.refl _ _).alloc (Nat.le_refl _) o)
theorem RL.drew (h : RL w wr M L C A n c rs) : RL w wr.drew M L C A n c rs := h.go ((Below.refl _ _).drew)
theorem own_msg (h : wr.ownsRow L 76 11 (.slice A n c) n (rc rs)) {P : Nat} (hp : wr.heap[P]? = some (.cells C 28 (0, 0))) : (Value.slice A n c).ownBlock ≠ some P := by
  intro e
  rcases h.2 with ⟨hv, _⟩ | ⟨g, cap, cur, hv, _, hg, _⟩
  · rw [hv] at e; cases e
  · rw [hv] at e
    have : g = P := Option.some.inj e
    subst this
    rw [hg] at hp
    have := Option.some.inj hp
    injection this with _ ht
    exact absurd ht (by decide)
theorem RL.app (h : RL w wr M L C A n c rs) {q : RRaw} (hk : wr.ownsRow (w.heap.size + 1) 3 1 (.slice q.K q.r.msg.keys.length q.c) q.r.msg.keys.length (q.r.msg.keys.map (Value.int .i64)))
    (hz : q.r.msg.keys.length ≤ 64 ∧ q.r.msg.id.size ≤ 300 ∧ q.r.msg.text.size ≤ 300 ∧ q.r.text.size ≤ 300)
    (ho : w3.ownsRow (w.heap.size + 1) 76 11 (.slice A' (n + 1) c') (n + 1) (rc (rs ++ [q]))) (hgr : wr.grownBy w3 (Value.slice A n c).ownBlock) : RL w w3 M L C A' (n + 1) c' (rs ++ [q]) :=
  ⟨h.q.app hk hz ho hgr, (hgr.block L h.lt (fun e => own_msg h.q.rs.om h.ml e.symm)).trans h.ml⟩
end
theorem seven_at {wr : World} {L : Nat} {c0 c1 c2 c3 c4 c5 c6 : Value} {t : TypeId} (h : wr.heap[L]? = some (.cells #[c0, c1, c2, c3, c4, c5, c6] t (0, 0))) :
    wr.cell? { block := L, off := 0 } = some c0 ∧ wr.cell? { block := L, off := 1 } = some c1 ∧ wr.cell? { block := L, off := 2 } = some c2 ∧ wr.cell? { block := L, off := 3 } = some c3 ∧ wr.cell? { block := L, off := 4 } = some c4 ∧ wr.cell? { block := L, off := 5 } = some c5 ∧ wr.cell? { block := L, off := 6 } = some c6 := by
  have c := fun o => cell_of_row _ L o _ _ _ h
  exact ⟨(c 0).trans rfl, (c 1).trans rfl, (c 2).trans rfl, (c 3).trans rfl, (c 4).trans rfl, (c 5).trans rfl, (c 6).trans rfl⟩
set_option maxHeartbeats 8000000 in
set_option maxRecDepth 100000 in
theorem rest_two {k : Nat} (hk : k = 1 ∨ k = 2) {w : World} {B wn wcp mn mcp : Nat} {WA MA : Option Addr} {b : Box} (ht : BxO.Tab w) (hx : StrsAt w B WA wn b.words) (hm : MsgsAt w B MA mn b.msgs) (hB : B ≤ w.heap.size) (hwc : wn ≤ wcp) (h0 : mbE b = 0) :
    Calls Tryz.prog 65 #[.int .i64 (k : Nat), .agg #[.string b.id, .int .i64 b.valid, .int .i64 b.next, .int .i64 b.high, .slice WA wn wcp, .slice MA mn mcp], .bool true] w (RestOut (rx (fmI k) b) w) := by
  have HG := Lib.hid (OlP.good_of h0)
  have hwl := HG.out.wl
  have hml := HG.out.ml
  have hwn : b.words.length = wn := hx.len
  have hmn : b.msgs.length = mn := hm.len
  have R0 := Lib.hid (RQ.start w #[.string b.id, .int .i64 b.valid, .int .i64 b.next, .int .i64 b.high, .slice WA wn wcp, .slice MA mn mcp])
  have HX := Lib.hid hx
  have HM := Lib.hid hm
  have HT := Lib.hid ht
  have hk3 : ((k : Int) == 3) = false := by rcases hk with rfl | rfl <;> rfl
  obtain ⟨f, hf⟩ : ∃ f, f = fmI k := ⟨_, rfl⟩
  have HF := Lib.hid (show f.w = 32 ∧ f.n = false by rw [hf]; rcases hk with rfl | rfl <;> exact ⟨rfl, rfl⟩)
  obtain ⟨kb, hkb⟩ : ∃ kb, kb = !f.c := ⟨_, rfl⟩
  have hk1 : ((k : Int) == 1) = kb := by rw [hkb, hf]; rcases hk with rfl | rfl <;> rfl
  have HKB := Lib.hid hkb
  rw [← hf]
  clear hx hm ht h0 hk hf hkb
  go_enter Tryz.func65, Tryz.ntmps65
  go_upto_region 4 with fail
  generalize (World.alloc w _) = w1 at R0 ⊢
  have hs1 := R0.out.size
  obtain ⟨nb, hnb⟩ : ∃ nb, nb = (kb && decide (b.high ≠ 1)) := ⟨_, rfl⟩
  have HNB := Lib.hid hnb
  clear hnb
  go_cut [22] (fun s22 wx => s22 = .bool nb ∧ wx = w1)
  case first =>
    obtain ⟨m0, m1, m2, m3, m4, m5, _⟩ := six_at R0.out.mb
    cases kb with
    | false =>
      have hv : nb = false := by rw [HNB.out]; rfl
      subst hv
      go_wp2_with fail
      go_meet
      exact ⟨rfl, rfl⟩
    | true =>
      by_cases hq : b.high = 1
      · have hv : nb = false := by rw [HNB.out, hq]; rfl
        subst hv
        have hq2 : (b.high != 1) = false := by simpa using hq
        go_wp2_with fail
        go_meet
        exact ⟨rfl, rfl⟩
      · have hv : nb = true := by rw [HNB.out]; simp [hq]
        subst hv
        have hq2 : (b.high != 1) = true := by simpa using hq
        go_wp2_with fail
        go_meet
        exact ⟨rfl, rfl⟩
  case rest =>
    obtain ⟨rfl, rfl⟩ := hcut
    go_upto_if 22 with fail
    go_cut [7] (fun s7 wx => ∃ (A : Option Addr) (n c : Nat) (rs : List RRaw), s7 = .slice A n c ∧ n ≤ 1 ∧ Hid (RQ w wx #[.string b.id, .int .i64 b.valid, .int .i64 b.next, .int .i64 b.high, .slice WA wn wcp, .slice MA mn mcp] A n c rs) ∧ Hid (rs.map RRaw.r = reH f b))
    case first =>
      obtain ⟨m0, m1, m2, m3, m4, m5, _⟩ := six_at R0.out.mb
      cases nb with
      | false =>
        have HE := Lib.hid (show ([] : List RRaw).map RRaw.r = reH f b by
          have h0 : ¬ (f.c = false ∧ b.high ≠ 1) := fun h => by
            have h1 := HNB.out
            rw [HKB.out, h.1] at h1
            simp [h.2] at h1
          unfold reH
          rw [if_neg h0]
          rfl)
        go_wp2_with fail
        go_meet
        exact ⟨none, 0, 0, [], rfl, Nat.zero_le _, R0, HE⟩
      | true =>
        have HE := Lib.hid (show [r7 b.high] = reH f b by
          have h0 : f.c = false ∧ b.high ≠ 1 := by
            have h1 := HNB.out
            rw [HKB.out] at h1
            cases hc : f.c with
            | true => rw [hc] at h1; simp at h1
            | false => rw [hc] at h1; exact ⟨rfl, by simpa using h1.symm⟩
          unfold reH
          rw [if_pos h0])
        clear m0 m1 m2 m4 m5
        have O2 := Lib.hid (R0.out.rs.om.alloc (.cells #[.int .i64 7, .int .i64 0, .int .i64 b.high, .int .i64 0, .int .i64 0, .int .i64 0, .string ⟨#[]⟩, .int .i64 0, .slice none 0 0, .string ⟨#[]⟩, .string ⟨#[]⟩] 76))
        have S2 := Lib.hid (src_new wc #[.int .i64 7, .int .i64 0, .int .i64 b.high, .int .i64 0, .int .i64 0, .int .i64 0, .string ⟨#[]⟩, .int .i64 0, .slice none 0 0, .string ⟨#[]⟩, .string ⟨#[]⟩] 76 (b := wc.heap.size) (m := 1) (sz := 11) rfl rfl (ImM.ones11 _ _ _ _ _ _ _ _ _ _ _ _ _))
        have Z2 := Lib.hid (show w.heap.size + 1 ≤ (wc.alloc (.cells #[.int .i64 7, .int .i64 0, .int .i64 b.high, .int .i64 0, .int .i64 0, .int .i64 0, .string ⟨#[]⟩, .int .i64 0, .slice none 0 0, .string ⟨#[]⟩, .string ⟨#[]⟩] 76)).heap.size by simp; omega)
        go_wp2_with (at_builtin; go_loud (
           refine wpList_rows elR rfl _ _ rfl rfl rfl O2.out S2.out (by unfold maxLen; omega) (by omega) Z2.out ?_
           intro v3 w3 hown3 hg3 _
           obtain ⟨A3, k3, rfl, hk3⟩ := own_slice hown3
           have R3 := Lib.hid ((R0.out.alloc (.cells #[.int .i64 7, .int .i64 0, .int .i64 b.high, .int .i64 0, .int .i64 0, .int .i64 0, .string ⟨#[]⟩, .int .i64 0, .slice none 0 0, .string ⟨#[]⟩, .string ⟨#[]⟩] 76)).app (q := ⟨r7 b.high, none, 0⟩) (World.ownsRow_nil _ _ _ _) ⟨Nat.zero_le _, Nat.zero_le _, Nat.zero_le _, by first | exact htx | exact Nat.zero_le _⟩ (by
             have e : rc (([] : List RRaw) ++ [(⟨r7 b.high, none, 0⟩ : RRaw)]) = rc ([] : List RRaw) ++ #[.int .i64 7, .int .i64 0, .int .i64 b.high, .int .i64 0, .int .i64 0, .int .i64 0, .string ⟨#[]⟩, .int .i64 0, .slice none 0 0, .string ⟨#[]⟩, .string ⟨#[]⟩].toList := by
               rw [rc_append]
               rfl
             rw [e]
             exact hown3) hg3)
           clear hown3 hg3 m3))
        go_meet
        exact ⟨A3, 1, k3, [⟨r7 b.high, none, 0⟩], rfl, Nat.le_refl _, by have := R3; simpa [Hid] using this, HE⟩
    case rest =>
      clear R0 hs1 HNB
      obtain ⟨A, n, c, rs, rfl, hn, R0, HA⟩ := hcut
      have hs1 := R0.out.size
      obtain ⟨m0, m1, m2, m3, m4, m5, _⟩ := six_at R0.out.mb
      go_upto_region 7 with fail
      clear m0 m1 m2 m3 m4 m5
      go_loopw [7, 32] (fun s7 s32 wr => ∃ (A : Option Addr) (n c : Nat) (rs : List RRaw) (j : Nat), s7 = .slice A n c ∧ j ≤ wn ∧ s32 = .int .i64 j ∧ n ≤ 1 + j ∧ Hid (RQ w wr #[.string b.id, .int .i64 b.valid, .int .i64 b.next, .int .i64 b.high, .slice WA wn wcp, .slice MA mn mcp] A n c rs) ∧ Hid (rs.map RRaw.r = reH f b ++ ((b.words.take j).drop 32).map r4)) (fun _ s32 _ => wn - (intOf s32).toNat)
      case atStart => exact ⟨A, n, c, rs, 0, rfl, Nat.zero_le _, rfl, by omega, R0, Lib.hid (by rw [List.take_zero, List.drop_nil, List.map_nil, List.append_nil]; exact HA.out)⟩
      case round =>
        clear R0 HA hs1
        obtain ⟨A, n, c, rs, j, rfl, hj, rfl, hn, R0, HA⟩ := hrel
        have hs1 := R0.out.size
        by_cases hlt : j < wn
        · obtain ⟨ad, s, rfl, e1, q1⟩ := BxKit.StrsAt.at_ HX.out R0.out.bel hB hlt
          have htx : s.size ≤ 300 := by
            have := (atB_size (OlP.wordsB_at HG.out.ws s (List.mem_of_getElem? e1))).2
            omega
          by_cases h32 : j < 32
          · have HS := Lib.hid (show rs.map RRaw.r = reH f b ++ ((b.words.take (j + 1)).drop 32).map r4 by
              have h := HA.out
              rw [List.drop_of_length_le (by rw [List.length_take]; omega)] at h
              rw [List.drop_of_length_le (by rw [List.length_take]; omega)]
              exact h)
            have hge : decide ((32 : Int) ≤ (j : Int)) = false := decide_eq_false (by omega)
            clear e1
            go_wp2_with fail
            go_roundw
            case rel => exact ⟨A, n, c, rs, j + 1, rfl, hlt, by go_num, by omega, R0, HS⟩
            case measure => simp [intOf]; omega
          · have HS := Lib.hid (show ((b.words.take (j + 1)).drop 32).map r4 = ((b.words.take j).drop 32).map r4 ++ [r4 s] by
              obtain ⟨hl2, rfl⟩ := List.getElem?_eq_some_iff.1 e1
              rw [List.take_succ_eq_append_getElem hl2, List.drop_append_of_le_length (by rw [List.length_take]; omega), List.map_append]
              rfl)
            have hge : decide ((32 : Int) ≤ (j : Int)) = true := decide_eq_true (by omega)
            clear e1
            have O2 := Lib.hid (R0.out.rs.om.alloc (.cells #[.int .i64 4, .int .i64 0, .int .i64 0, .int .i64 0, .int .i64 0, .int .i64 0, .string ⟨#[]⟩, .int .i64 0, .slice none 0 0, .string ⟨#[]⟩, .string s] 76))
            have S2 := Lib.hid (src_new wr #[.int .i64 4, .int .i64 0, .int .i64 0, .int .i64 0, .int .i64 0, .int .i64 0, .string ⟨#[]⟩, .int .i64 0, .slice none 0 0, .string ⟨#[]⟩, .string s] 76 (b := wr.heap.size) (m := 1) (sz := 11) rfl rfl (ImM.ones11 _ _ _ _ _ _ _ _ _ _ _ _ _))
            have Z2 := Lib.hid (show w.heap.size + 1 ≤ (wr.alloc (.cells #[.int .i64 4, .int .i64 0, .int .i64 0, .int .i64 0, .int .i64 0, .int .i64 0, .string ⟨#[]⟩, .int .i64 0, .slice none 0 0, .string ⟨#[]⟩, .string s] 76)).heap.size by simp; omega)
            go_wp2_with (at_builtin; go_loud (
               refine wpList_rows elR rfl _ _ rfl rfl rfl O2.out S2.out (by unfold maxLen; omega) (by omega) Z2.out ?_
               intro v3 w3 hown3 hg3 _
               obtain ⟨A3, k3, rfl, hk3⟩ := own_slice hown3
               have R3 := Lib.hid ((R0.out.alloc (.cells #[.int .i64 4, .int .i64 0, .int .i64 0, .int .i64 0, .int .i64 0, .int .i64 0, .string ⟨#[]⟩, .int .i64 0, .slice none 0 0, .string ⟨#[]⟩, .string s] 76)).app (q := ⟨r4 s, none, 0⟩) (World.ownsRow_nil _ _ _ _) ⟨Nat.zero_le _, Nat.zero_le _, Nat.zero_le _, by first | exact htx | exact Nat.zero_le _⟩ (by
                 have e : rc (rs ++ [(⟨r4 s, none, 0⟩ : RRaw)]) = rc rs ++ #[.int .i64 4, .int .i64 0, .int .i64 0, .int .i64 0, .int .i64 0, .int .i64 0, .string ⟨#[]⟩, .int .i64 0, .slice none 0 0, .string ⟨#[]⟩, .string s].toList := by
                   rw [rc_append]
                   rfl
                 rw [e]
                 exact hown3) hg3)
               clear hown3 hg3 q1))
            go_roundw
            case rel => exact ⟨A3, n + 1, k3, rs ++ [⟨r4 s, none, 0⟩], j + 1, rfl, hlt, by go_num, by omega, R3, Lib.hid (by rw [List.map_append, HA.out, HS.out, List.append_assoc]; rfl)⟩
            case measure => simp [intOf]; omega
        · obtain rfl : wn = j := by omega
          have HA1 := Lib.hid (show rs.map RRaw.r = reH f b ++ reW f b by
            have h := HA.out
            rw [List.take_of_length_le (by rw [hwn]; exact Nat.le_refl _)] at h
            unfold reW
            rw [HF.out.1]
            exact h)
          obtain ⟨m0, m1, m2, m3, m4, m5, _⟩ := six_at R0.out.mb
          clear HA
          go_upto_region 13 with fail
          clear m0 m1 m2 m3 m4 m5
          go_loopw [7, 48] (fun s7 s48 wr => ∃ (A : Option Addr) (n c : Nat) (rs : List RRaw) (j : Nat), s7 = .slice A n c ∧ j ≤ mn ∧ s48 = .int .i64 j ∧ n ≤ 100 + 4 * j ∧ Hid (RQ w wr #[.string b.id, .int .i64 b.valid, .int .i64 b.next, .int .i64 b.high, .slice WA wn wcp, .slice MA mn mcp] A n c rs) ∧ Hid (rs.map RRaw.r = (reH f b ++ reW f b) ++ (b.msgs.take j).flatMap (rxM f b.id))) (fun _ s48 _ => mn - (intOf s48).toNat)
          case atStart => exact ⟨A, n, c, rs, 0, rfl, Nat.zero_le _, rfl, by omega, R0, Lib.hid (by rw [List.take_zero, List.flatMap_nil, List.append_nil]; exact HA1.out)⟩
          case round =>
            clear R0 HA1 hs1
            obtain ⟨A, n, c, rs, j, rfl, hj, rfl, hn, R0, HA⟩ := hrel
            have hs1 := R0.out.size
            by_cases hlt2 : j < mn
            · obtain ⟨ad, u, md, d, id, fl, ks, tx, K, kn, kc, rfl, hab, e1, c0, c1, c2, c3, c4, c5, c6, hkc, hks, z1, z2⟩ := BxKit.MsgsAt.sp HM.out R0.out.bel hB hlt2
              obtain ⟨p1, p2, p3, p4, p5, p6, p7⟩ := OlP.mm_parts (HG.out.ms _ (List.mem_of_getElem? e1)).1
              dsimp only at p1 p2 p4 p5 p6 p7
              have hk64 : kn ≤ 64 := by have h1 := F3D.keys_len p6; have h2 := hks.len; omega
              have hidz := (atB_size p4).2
              have hbid := HG.out.ids
              have hfl : flM f ⟨u, md, d, id, fl, ks, tx⟩ = (decide (0 < ks.length) && decide ((f.w : Int) ≤ ks.getD (ks.length - 1) 0)) := last_flM p6
              obtain ⟨m, hm⟩ : ∃ m : Msg, m = ⟨u, md, d, id, fl, ks, tx⟩ := ⟨_, rfl⟩
              rw [← hm] at hfl
              have hkl := hks.len
              subst hkl
              rw [HF.out.1] at hfl
              obtain ⟨bb, hbb⟩ : ∃ bb, bb = flM f m := ⟨_, rfl⟩
              rw [← hbb] at hfl
              have HBB := Lib.hid hbb
              have HMM := Lib.hid hm
              have HFL := Lib.hid hfl
              have HS := Lib.hid (show (b.msgs.take (j + 1)).flatMap (rxM f b.id) = (b.msgs.take j).flatMap (rxM f b.id) ++ rxM f b.id m by
                obtain ⟨hl2, e⟩ := List.getElem?_eq_some_iff.1 e1
                rw [List.take_succ_eq_append_getElem hl2, List.flatMap_append, e, hm]
                simp)
              have R1 := Lib.hid (RL.mk (R0.out.alloc (.cells #[.int .i64 u, .int .i64 md, .int .i64 d, .string id, .int .i64 fl, .slice K ks.length kc, .string tx] 28)) (heap_alloc_new wr (.cells #[.int .i64 u, .int .i64 md, .int .i64 d, .string id, .int .i64 fl, .slice K ks.length kc, .string tx] 28)))
              have HKS := Lib.hid (IntsAt.below hks ((Below.refl wr.heap.size wr).alloc (Nat.le_refl _) (.cells #[.int .i64 u, .int .i64 md, .int .i64 d, .string id, .int .i64 fl, .slice K ks.length kc, .string tx] 28)) (show B ≤ wr.heap.size by omega))
              obtain ⟨P, hP⟩ : ∃ P, P = rs.map RRaw.r := ⟨_, rfl⟩
              have HP := Lib.hid (show P = (reH f b ++ reW f b) ++ (b.msgs.take j).flatMap (rxM f b.id) by rw [hP]; exact HA.out)
              have HA := Lib.hid (show rs.map RRaw.r = P from hP.symm)
              have hur : -1000000000 ≤ u ∧ u ≤ 1000000000 := by omega
              clear e1 hks p1 p2 p3 p4 p5 p6 p7 hP hbb hfl hm
              go_upto_region 15 with fail
              clear c0 c1 c2 c3 c4 c5 c6 R0
              obtain ⟨L, hL⟩ : ∃ L, L = wr.heap.size := ⟨_, rfl⟩
              rw [← hL] at R1 ⊢
              have hsw : (wr.alloc (.cells #[.int .i64 u, .int .i64 md, .int .i64 d, .string id, .int .i64 fl, .slice K ks.length kc, .string tx] 28)).heap.size = L + 1 := by simp [hL]
              have hBL : B ≤ L + 1 := by omega
              have hL2 : w.heap.size + 1 ≤ L := by omega
              clear hL
              generalize (World.alloc wr _) = w2 at R1 HKS hsw ⊢
              go_cut [12] (fun s12 wx => s12 = .bool bb ∧ wx = w2)
              case first =>
                obtain ⟨d0, d1, d2, d3, d4, d5, d6⟩ := seven_at R1.out.ml
                by_cases hz : ks.length = 0
                · have hv : bb = false := by rw [HFL.out, hz]; rfl
                  subst hv
                  rw [hz] at d5
                  go_wp2_with fail
                  go_meet
                  exact ⟨rfl, rfl⟩
                · obtain ⟨q, hq⟩ : ∃ q, ks.length = q + 1 := ⟨ks.length - 1, by omega⟩
                  obtain ⟨adk, x, rfl, ex, cx⟩ := IntsAt.at_ HKS.out (Below.refl _ w2) (show B ≤ w2.heap.size by omega) (show q < ks.length by omega)
                  have hbx : bb = decide ((32 : Int) ≤ x) := by
                    rw [HFL.out, hq, Nat.add_sub_cancel, List.getD_eq_getElem?_getD, ex]
                    rfl
                  rw [hq] at d5
                  have g0 : (0 : Int) ≤ (q : Int) := by omega
                  have g1 : (q : Int) < ((q + 1 : Nat) : Int) := by omega
                  have g2 : (0 : Int) < ((q + 1 : Nat) : Int) := by omega
                  have hq64 : q ≤ 64 := by omega
                  by_cases hx : (32 : Int) ≤ x
                  · have hv : bb = true := by rw [hbx]; exact decide_eq_true hx
                    have hd : decide ((32 : Int) ≤ x) = true := decide_eq_true hx
                    clear hbx
                    subst hv
                    go_wp2_with fail
                    go_meet
                    exact ⟨rfl, rfl⟩
                  · have hv : bb = false := by rw [hbx]; exact decide_eq_false hx
                    have hd : decide ((32 : Int) ≤ x) = false := decide_eq_false hx
                    clear hbx
                    subst hv
                    go_wp2_with fail
                    go_meet
                    exact ⟨rfl, rfl⟩
              case rest =>
                obtain ⟨rfl, rfl⟩ := hcut
                go_upto_if 67 with fail
                go_cut [7] (fun s7 wx => ∃ (A : Option Addr) (n' c : Nat) (rs : List RRaw), s7 = .slice A n' c ∧ n' ≤ 100 + 4 * j + 1 ∧ Hid (RL w wx #[.string b.id, .int .i64 b.valid, .int .i64 b.next, .int .i64 b.high, .slice WA wn wcp, .slice (some ad) mn mcp] L #[.int .i64 u, .int .i64 md, .int .i64 d, .string id, .int .i64 fl, .slice K ks.length kc, .string tx] A n' c rs) ∧ Hid (rs.map RRaw.r = P ++ reA f m))
                case first =>
                  cases bb with
                  | false =>
                    have HE := Lib.hid (show rs.map RRaw.r = P ++ reA f m by unfold reA; rw [← HBB.out, HA.out]; simp)
                    go_wp2_with fail
                    go_meet
                    exact ⟨A, n, c, rs, rfl, by omega, R1, HE⟩
                  | true =>
                    have HE := Lib.hid (show P ++ [r2 m] = P ++ reA f m by unfold reA; rw [← HBB.out]; rfl)
                    have HSR := Lib.hid (ints_src (show IntsAt wc.drew B K ks.length ks from HKS.out))
                    have SD := seven_at (show wc.drew.heap[L]? = _ from R1.out.ml)
                    have hsz := R1.out.q.size
                    go_upto_region 17 with fail
                    go_region_held3 (fun wx => (wx.cell? { block := L, off := 0 } = some (.int .i64 u) ∧ wx.cell? { block := L, off := 1 } = some (.int .i64 md) ∧ wx.cell? { block := L, off := 2 } = some (.int .i64 d) ∧ wx.cell? { block := L, off := 3 } = some (.string id) ∧ wx.cell? { block := L, off := 4 } = some (.int .i64 fl) ∧ wx.cell? { block := L, off := 5 } = some (.slice K ks.length kc) ∧ wx.cell? { block := L, off := 6 } = some (.string tx))) (with_reducible first | exact SD | exact seven_at R2.out.ml | exact seven_at (R2.out.alloc _).ml | exact seven_at R3.out.ml | go_keep) (first
                      | (go_loud (
                         refine step_rows elI (c := kc) rfl (.const (.slice none 0 0)) (.tmp 76) rfl (by simp [Act.eval]) (by simp [Act.eval]) (World.ownsRow_nil wc.drew (w.heap.size + 1) 3 1) HSR.out (by unfold maxLen; omega) (by omega) (show w.heap.size + 1 ≤ wc.heap.size from hsz) ?_
                         intro v2 w3 hown2 hg2 _
                         obtain ⟨K3, k3, rfl, hk3⟩ := own_slice hown2
                         have R2 := Lib.hid (R1.out.drew.go (show Below wc.drew.heap.size wc.drew w3 from ⟨hg2.os, hg2.tape, hg2.output, hg2.size, fun i hi => hg2.block i hi (by simp [Value.ownBlock])⟩))
                         rw [Nat.zero_add, List.nil_append] at hown2
                         have HK2 := Lib.hid (hown2.alloc (.cells #[.int .i64 2, .int .i64 u, .int .i64 md, .int .i64 0, .int .i64 0, .int .i64 0, .string ⟨#[]⟩, .int .i64 fl, .slice K3 ks.length k3, .string ⟨#[]⟩, .string ⟨#[]⟩] 76))
                         have O2 := Lib.hid (R2.out.q.rs.om.alloc (.cells #[.int .i64 2, .int .i64 u, .int .i64 md, .int .i64 0, .int .i64 0, .int .i64 0, .string ⟨#[]⟩, .int .i64 fl, .slice K3 ks.length k3, .string ⟨#[]⟩, .string ⟨#[]⟩] 76))
                         have S2 := Lib.hid (src_new w3 #[.int .i64 2, .int .i64 u, .int .i64 md, .int .i64 0, .int .i64 0, .int .i64 0, .string ⟨#[]⟩, .int .i64 fl, .slice K3 ks.length k3, .string ⟨#[]⟩, .string ⟨#[]⟩] 76 (b := w3.heap.size) (m := 1) (sz := 11) rfl rfl (ImM.ones11 _ _ _ _ _ _ _ _ _ _ _ _ _))
                         have Z2 := Lib.hid (show w.heap.size + 1 ≤ (w3.alloc (.cells #[.int .i64 2, .int .i64 u, .int .i64 md, .int .i64 0, .int .i64 0, .int .i64 0, .string ⟨#[]⟩, .int .i64 fl, .slice K3 ks.length k3, .string ⟨#[]⟩, .string ⟨#[]⟩] 76)).heap.size by have := R2.out.q.size; simp; omega)
                         clear hown2 hg2
                         simp only [Nat.zero_add]))
                      | (go_loud (
                         refine step_rows elR (c := 1) rfl (.tmp 68) (.tmp 80) rfl (by simp [Act.eval]) (by simp [Act.eval]) O2.out S2.out (by unfold maxLen; omega) (by omega) Z2.out ?_
                         intro v4 w4 hown4 hg4 _
                         obtain ⟨A4, k4, rfl, hk4⟩ := own_slice hown4
                         have R3 := Lib.hid ((R2.out.alloc (.cells #[.int .i64 2, .int .i64 u, .int .i64 md, .int .i64 0, .int .i64 0, .int .i64 0, .string ⟨#[]⟩, .int .i64 fl, .slice K3 ks.length k3, .string ⟨#[]⟩, .string ⟨#[]⟩] 76)).app (q := ⟨r2 m, K3, k3⟩) (by rw [HMM.out]; exact HK2.out) (by rw [HMM.out]; exact ⟨hk64, Nat.zero_le _, Nat.zero_le _, Nat.zero_le _⟩) (by
                           have e : rc (rs ++ [(⟨r2 m, K3, k3⟩ : RRaw)]) = rc rs ++ #[.int .i64 2, .int .i64 u, .int .i64 md, .int .i64 0, .int .i64 0, .int .i64 0, .string ⟨#[]⟩, .int .i64 fl, .slice K3 ks.length k3, .string ⟨#[]⟩, .string ⟨#[]⟩].toList := by
                             rw [rc_append, HMM.out]
                             rfl
                           rw [e]
                           exact hown4) hg4)
                         clear hown4 hg4
                         dsimp only)))
                    rename_i hHeld
                    clear hHeld
                    go_wp2_with fail
                    go_meet
                    exact ⟨A4, n + 1, k4, rs ++ [⟨r2 m, K3, k3⟩], rfl, by omega, R3, Lib.hid (by rw [List.map_append, HA.out]; exact HE.out)⟩
                case rest =>
                  clear R1 HA HKS hsw
                  obtain ⟨A, n1, c, rs, rfl, hn1, R1, HA⟩ := hcut
                  obtain ⟨w4, hw4⟩ : ∃ w4, w4 = wc := ⟨_, rfl⟩
                  subst hw4
                  obtain ⟨lt, hlt0⟩ : ∃ lt, lt = (kb && decide (md ≠ 1)) := ⟨_, rfl⟩
                  have HLT := Lib.hid hlt0
                  clear hlt0
                  go_upto_region 18 with fail
                  go_cut [13] (fun s13 wx => s13 = .bool lt ∧ wx = w4)
                  case first =>
                    obtain ⟨d0, d1, d2, d3, d4, d5, d6⟩ := seven_at R1.out.ml
                    cases kb with
                    | false =>
                      have hv : lt = false := by rw [HLT.out]; rfl
                      subst hv
                      go_wp2_with fail
                      go_meet
                      exact ⟨rfl, rfl⟩
                    | true =>
                      by_cases hq : md = 1
                      · have hv : lt = false := by rw [HLT.out, hq]; rfl
                        subst hv
                        have hq2 : (md != 1) = false := by simpa using hq
                        go_wp2_with fail
                        go_meet
                        exact ⟨rfl, rfl⟩
                      · have hv : lt = true := by rw [HLT.out]; simp [hq]
                        subst hv
                        have hq2 : (md != 1) = true := by simpa using hq
                        go_wp2_with fail
                        go_meet
                        exact ⟨rfl, rfl⟩
                  case rest =>
                    obtain ⟨rfl, rfl⟩ := hcut
                    obtain ⟨w4, hw4⟩ : ∃ w4, w4 = wc := ⟨_, rfl⟩
                    subst hw4
                    have HLC := Lib.hid (show lt = decide (f.c = false ∧ m.mod ≠ 1) by
                      rw [HLT.out, HKB.out, HMM.out]
                      cases f.c <;> by_cases h : md = 1 <;> simp [h])
                    clear HLT
                    go_upto_region 19 with fail
                    go_cut [95] (fun s95 wx => s95 = .bool (lt && bb) ∧ wx = w4)
                    case first =>
                      cases lt <;> cases bb
                      all_goals
                        go_wp2_with fail
                        go_meet
                        exact ⟨rfl, rfl⟩
                    case rest =>
                      obtain ⟨rfl, rfl⟩ := hcut
                      obtain ⟨w4, hw4⟩ : ∃ w4, w4 = wc := ⟨_, rfl⟩
                      subst hw4
                      obtain ⟨lb, hlb⟩ : ∃ lb, lb = (lt && bb) := ⟨_, rfl⟩
                      rw [← hlb]
                      have HD := Lib.hid (show reD f m = if lb = true then [r6 m] else [] by
                        unfold reD
                        rw [hlb, HLC.out, HBB.out]
                        by_cases h1 : f.c = false <;> by_cases h2 : m.mod = 1 <;> cases flM f m <;> simp [h1, h2])
                      clear hlb
                      go_upto_if 95 with fail
                      go_cut [7] (fun s7 wx => ∃ (A : Option Addr) (n' c : Nat) (rs : List RRaw), s7 = .slice A n' c ∧ n' ≤ 100 + 4 * j + 2 ∧ Hid (RL w wx #[.string b.id, .int .i64 b.valid, .int .i64 b.next, .int .i64 b.high, .slice WA wn wcp, .slice (some ad) mn mcp] L #[.int .i64 u, .int .i64 md, .int .i64 d, .string id, .int .i64 fl, .slice K ks.length kc, .string tx] A n' c rs) ∧ Hid (rs.map RRaw.r = (P ++ reA f m) ++ reD f m))
                      case first =>
                        cases lb with
                        | false =>
                          have HE := Lib.hid (show rs.map RRaw.r = (P ++ reA f m) ++ reD f m by rw [HD.out, HA.out]; simp)
                          go_wp2_with fail
                          go_meet
                          exact ⟨A, n1, c, rs, rfl, by omega, R1, HE⟩
                        | true =>
                          obtain ⟨d0, d1, d2, d3, d4, d5, d6⟩ := seven_at R1.out.ml
                          have hsz := R1.out.q.size
                          have O2 := Lib.hid (R1.out.q.rs.om.alloc (.cells #[.int .i64 6, .int .i64 u, .int .i64 md, .int .i64 0, .int .i64 0, .int .i64 0, .string ⟨#[]⟩, .int .i64 0, .slice none 0 0, .string ⟨#[]⟩, .string ⟨#[]⟩] 76))
                          have S2 := Lib.hid (src_new w4 #[.int .i64 6, .int .i64 u, .int .i64 md, .int .i64 0, .int .i64 0, .int .i64 0, .string ⟨#[]⟩, .int .i64 0, .slice none 0 0, .string ⟨#[]⟩, .string ⟨#[]⟩] 76 (b := w4.heap.size) (m := 1) (sz := 11) rfl rfl (ImM.ones11 _ _ _ _ _ _ _ _ _ _ _ _ _))
                          have Z2 := Lib.hid (show w.heap.size + 1 ≤ (w4.alloc (.cells #[.int .i64 6, .int .i64 u, .int .i64 md, .int .i64 0, .int .i64 0, .int .i64 0, .string ⟨#[]⟩, .int .i64 0, .slice none 0 0, .string ⟨#[]⟩, .string ⟨#[]⟩] 76)).heap.size by simp; omega)
                          go_wp2_with (at_builtin; go_loud (
                             refine wpList_rows elR rfl _ _ rfl rfl rfl O2.out S2.out (by unfold maxLen; omega) (by omega) Z2.out ?_
                             intro v3 w3 hown3 hg3 _
                             obtain ⟨A3, k3, rfl, hk3⟩ := own_slice hown3
                             have R3 := Lib.hid ((R1.out.alloc (.cells #[.int .i64 6, .int .i64 u, .int .i64 md, .int .i64 0, .int .i64 0, .int .i64 0, .string ⟨#[]⟩, .int .i64 0, .slice none 0 0, .string ⟨#[]⟩, .string ⟨#[]⟩] 76)).app (q := ⟨r6 m, none, 0⟩) (World.ownsRow_nil _ _ _ _) (by rw [HMM.out]; exact ⟨Nat.zero_le _, Nat.zero_le _, Nat.zero_le _, by first | exact Nat.zero_le _ | (show id.size ≤ 300; omega)⟩) (by
                               have e : rc (rs ++ [(⟨r6 m, none, 0⟩ : RRaw)]) = rc rs ++ #[.int .i64 6, .int .i64 u, .int .i64 md, .int .i64 0, .int .i64 0, .int .i64 0, .string ⟨#[]⟩, .int .i64 0, .slice none 0 0, .string ⟨#[]⟩, .string ⟨#[]⟩].toList := by
                                 rw [rc_append, HMM.out]
                                 rfl
                               rw [e]
                               exact hown3) hg3)
                             clear hown3 hg3 d0 d1 d3))
                          go_meet
                          exact ⟨A3, n1 + 1, k3, rs ++ [⟨r6 m, none, 0⟩], rfl, by omega, R3, Lib.hid (by rw [List.map_append, HA.out, HD.out]; rfl)⟩
                      case rest =>
                        clear R1 HA HD
                        obtain ⟨A, n2, c, rs, rfl, hn2, R1, HA⟩ := hcut
                        obtain ⟨w5, hw5⟩ : ∃ w5, w5 = wc := ⟨_, rfl⟩
                        subst hw5
                        obtain ⟨ow, how⟩ : ∃ ow, ow = ownT b.id u := ⟨_, rfl⟩
                        obtain ⟨nb, hnb⟩ : ∃ nb, nb = decide (id ≠ ow) := ⟨_, rfl⟩
                        have hne : (!(id.toList == ow.toList)) = nb := by rw [hnb, LwX.str_ne]
                        have HB := Lib.hid (show reB f b.id m = if nb = true then [r5 m] else [] by
                          unfold reB
                          rw [hnb, how, HMM.out]
                          simp [HF.out.2])
                        have KO0 := fun (wr : World) (hb : Below w.heap.size w wr) => BxO.refOwn_any (id := b.id) (u := u) (HT.out.below hb (Nat.le_refl _)) (by omega) (by omega)
                        rw [← how] at KO0
                        have KO := Lib.hid KO0
                        clear how hnb KO0
                        go_upto_region 21 with fail
                        go_cut [111] (fun s111 wx => s111 = .bool nb ∧ Hid (RL w wx #[.string b.id, .int .i64 b.valid, .int .i64 b.next, .int .i64 b.high, .slice WA wn wcp, .slice (some ad) mn mcp] L #[.int .i64 u, .int .i64 md, .int .i64 d, .string id, .int .i64 fl, .slice K ks.length kc, .string tx] A n2 c rs))
                        case first =>
                          have SD := (show (w5.drew.cell? { block := L, off := 0 } = some (.int .i64 u) ∧ w5.drew.cell? { block := L, off := 1 } = some (.int .i64 md) ∧ w5.drew.cell? { block := L, off := 2 } = some (.int .i64 d) ∧ w5.drew.cell? { block := L, off := 3 } = some (.string id) ∧ w5.drew.cell? { block := L, off := 4 } = some (.int .i64 fl) ∧ w5.drew.cell? { block := L, off := 5 } = some (.slice K ks.length kc) ∧ w5.drew.cell? { block := L, off := 6 } = some (.string tx)) ∧ w5.drew.cell? { block := w.heap.size, off := 0 } = some (.string b.id) from ⟨seven_at (show w5.drew.heap[L]? = _ from R1.out.ml), (six_at (show w5.drew.heap[w.heap.size]? = _ from R1.out.q.mb)).1⟩)
                          have bd := R1.out.q.bel.drew
                          go_region_held3 (fun wx => (wx.cell? { block := L, off := 0 } = some (.int .i64 u) ∧ wx.cell? { block := L, off := 1 } = some (.int .i64 md) ∧ wx.cell? { block := L, off := 2 } = some (.int .i64 d) ∧ wx.cell? { block := L, off := 3 } = some (.string id) ∧ wx.cell? { block := L, off := 4 } = some (.int .i64 fl) ∧ wx.cell? { block := L, off := 5 } = some (.slice K ks.length kc) ∧ wx.cell? { block := L, off := 6 } = some (.string tx)) ∧ wx.cell? { block := w.heap.size, off := 0 } = some (.string b.id)) (with_reducible first | exact SD | exact D6.out | go_keep) (first
                            | (go_at_call 62
                               ((with_reducible refine (KO.out _ ?d1).mono ?_); rotate_left)
                               case d1 => first | exact bd | exact R1.out.q.bel
                               go_loud (
                               rintro e w6 ⟨rfl, hb6⟩
                               have hb6 : Below w5.heap.size w5 w6 := ⟨hb6.os, hb6.tape, hb6.output, hb6.size, hb6.block⟩
                               have R6 := Lib.hid (R1.out.go hb6)
                               have D6 := Lib.hid (show (w6.cell? { block := L, off := 0 } = some (.int .i64 u) ∧ w6.cell? { block := L, off := 1 } = some (.int .i64 md) ∧ w6.cell? { block := L, off := 2 } = some (.int .i64 d) ∧ w6.cell? { block := L, off := 3 } = some (.string id) ∧ w6.cell? { block := L, off := 4 } = some (.int .i64 fl) ∧ w6.cell? { block := L, off := 5 } = some (.slice K ks.length kc) ∧ w6.cell? { block := L, off := 6 } = some (.string tx)) ∧ w6.cell? { block := w.heap.size, off := 0 } = some (.string b.id) from ⟨seven_at R6.out.ml, (six_at R6.out.q.mb).1⟩)
                               clear hb6
                               dsimp only)))
                          rename_i hHeld
                          clear hHeld
                          go_wp2_with fail
                          go_meet
                          exact ⟨rfl, R6⟩
                        case rest =>
                          clear R1 hne KO
                          obtain ⟨rfl, R1⟩ := hcut
                          obtain ⟨w6, hw6⟩ : ∃ w6, w6 = wc := ⟨_, rfl⟩
                          subst hw6
                          go_upto_if 111 with fail
                          go_cut [7] (fun s7 wx => ∃ (A : Option Addr) (n' c : Nat) (rs : List RRaw), s7 = .slice A n' c ∧ n' ≤ 100 + 4 * j + 3 ∧ Hid (RL w wx #[.string b.id, .int .i64 b.valid, .int .i64 b.next, .int .i64 b.high, .slice WA wn wcp, .slice (some ad) mn mcp] L #[.int .i64 u, .int .i64 md, .int .i64 d, .string id, .int .i64 fl, .slice K ks.length kc, .string tx] A n' c rs) ∧ Hid (rs.map RRaw.r = ((P ++ reA f m) ++ reD f m) ++ reB f b.id m))
                          case first =>
                            cases nb with
                            | false =>
                              have HE := Lib.hid (show rs.map RRaw.r = ((P ++ reA f m) ++ reD f m) ++ reB f b.id m by rw [HB.out, HA.out]; simp)
                              go_wp2_with fail
                              go_meet
                              exact ⟨A, n2, c, rs, rfl, by omega, R1, HE⟩
                            | true =>
                              obtain ⟨d0, d1, d2, d3, d4, d5, d6⟩ := seven_at R1.out.ml
                              have hsz := R1.out.q.size
                              have O2 := Lib.hid (R1.out.q.rs.om.alloc (.cells #[.int .i64 5, .int .i64 u, .int .i64 0, .int .i64 0, .int .i64 0, .int .i64 0, .string ⟨#[]⟩, .int .i64 0, .slice none 0 0, .string ⟨#[]⟩, .string id] 76))
                              have S2 := Lib.hid (src_new w6 #[.int .i64 5, .int .i64 u, .int .i64 0, .int .i64 0, .int .i64 0, .int .i64 0, .string ⟨#[]⟩, .int .i64 0, .slice none 0 0, .string ⟨#[]⟩, .string id] 76 (b := w6.heap.size) (m := 1) (sz := 11) rfl rfl (ImM.ones11 _ _ _ _ _ _ _ _ _ _ _ _ _))
                              have Z2 := Lib.hid (show w.heap.size + 1 ≤ (w6.alloc (.cells #[.int .i64 5, .int .i64 u, .int .i64 0, .int .i64 0, .int .i64 0, .int .i64 0, .string ⟨#[]⟩, .int .i64 0, .slice none 0 0, .string ⟨#[]⟩, .string id] 76)).heap.size by simp; omega)
                              go_wp2_with (at_builtin; go_loud (
                                 refine wpList_rows elR rfl _ _ rfl rfl rfl O2.out S2.out (by unfold maxLen; omega) (by omega) Z2.out ?_
                                 intro v3 w3 hown3 hg3 _
                                 obtain ⟨A3, k3, rfl, hk3⟩ := own_slice hown3
                                 have R3 := Lib.hid ((R1.out.alloc (.cells #[.int .i64 5, .int .i64 u, .int .i64 0, .int .i64 0, .int .i64 0, .int .i64 0, .string ⟨#[]⟩, .int .i64 0, .slice none 0 0, .string ⟨#[]⟩, .string id] 76)).app (q := ⟨r5 m, none, 0⟩) (World.ownsRow_nil _ _ _ _) (by rw [HMM.out]; exact ⟨Nat.zero_le _, Nat.zero_le _, Nat.zero_le _, by first | exact Nat.zero_le _ | (show id.size ≤ 300; omega)⟩) (by
                                   have e : rc (rs ++ [(⟨r5 m, none, 0⟩ : RRaw)]) = rc rs ++ #[.int .i64 5, .int .i64 u, .int .i64 0, .int .i64 0, .int .i64 0, .int .i64 0, .string ⟨#[]⟩, .int .i64 0, .slice none 0 0, .string ⟨#[]⟩, .string id].toList := by
                                     rw [rc_append, HMM.out]
                                     rfl
                                   rw [e]
                                   exact hown3) hg3)
                                 clear hown3 hg3 d0 d1 d3))
                              go_meet
                              exact ⟨A3, n2 + 1, k3, rs ++ [⟨r5 m, none, 0⟩], rfl, by omega, R3, Lib.hid (by rw [List.map_append, HA.out, HB.out]; rfl)⟩
                          case rest =>
                            clear R1 HA HB
                            obtain ⟨A, n3, c, rs, rfl, hn3, R1, HA⟩ := hcut
                            obtain ⟨w7, hw7⟩ : ∃ w7, w7 = wc := ⟨_, rfl⟩
                            subst hw7
                            have HCq := Lib.hid (show reC f m = if (lt && !bb) = true then [r6 m] else [] by
                              unfold reC
                              rw [HLC.out, HBB.out]
                              by_cases h1 : f.c = false <;> by_cases h2 : m.mod = 1 <;> cases flM f m <;> simp [h1, h2])
                            have HFIN := Lib.hid (show ∀ l, l = (((P ++ reA f m) ++ reD f m) ++ reB f b.id m) ++ reC f m → l = (reH f b ++ reW f b) ++ (b.msgs.take (j + 1)).flatMap (rxM f b.id) by
                              rintro l rfl
                              rw [HS.out, HP.out]
                              unfold rxM
                              simp only [List.append_assoc])
                            have hsz := R1.out.q.size
                            cases lt <;> cases bb
                            case true.false =>
                              have HE : reC f m = [r6 m] := by rw [HCq.out]; rfl
                              have HE2 := Lib.hid HE
                              clear HE
                              obtain ⟨d0, d1, d2, d3, d4, d5, d6⟩ := seven_at R1.out.ml
                              have hsz := R1.out.q.size
                              have O2 := Lib.hid (R1.out.q.rs.om.alloc (.cells #[.int .i64 6, .int .i64 u, .int .i64 md, .int .i64 0, .int .i64 0, .int .i64 0, .string ⟨#[]⟩, .int .i64 0, .slice none 0 0, .string ⟨#[]⟩, .string ⟨#[]⟩] 76))
                              have S2 := Lib.hid (src_new w7 #[.int .i64 6, .int .i64 u, .int .i64 md, .int .i64 0, .int .i64 0, .int .i64 0, .string ⟨#[]⟩, .int .i64 0, .slice none 0 0, .string ⟨#[]⟩, .string ⟨#[]⟩] 76 (b := w7.heap.size) (m := 1) (sz := 11) rfl rfl (ImM.ones11 _ _ _ _ _ _ _ _ _ _ _ _ _))
                              have Z2 := Lib.hid (show w.heap.size + 1 ≤ (w7.alloc (.cells #[.int .i64 6, .int .i64 u, .int .i64 md, .int .i64 0, .int .i64 0, .int .i64 0, .string ⟨#[]⟩, .int .i64 0, .slice none 0 0, .string ⟨#[]⟩, .string ⟨#[]⟩] 76)).heap.size by simp; omega)
                              go_wp2_with (at_builtin; go_loud (
                                 refine wpList_rows elR rfl _ _ rfl rfl rfl O2.out S2.out (by unfold maxLen; omega) (by omega) Z2.out ?_
                                 intro v3 w3 hown3 hg3 _
                                 obtain ⟨A3, k3, rfl, hk3⟩ := own_slice hown3
                                 have R3 := Lib.hid ((R1.out.alloc (.cells #[.int .i64 6, .int .i64 u, .int .i64 md, .int .i64 0, .int .i64 0, .int .i64 0, .string ⟨#[]⟩, .int .i64 0, .slice none 0 0, .string ⟨#[]⟩, .string ⟨#[]⟩] 76)).app (q := ⟨r6 m, none, 0⟩) (World.ownsRow_nil _ _ _ _) (by rw [HMM.out]; exact ⟨Nat.zero_le _, Nat.zero_le _, Nat.zero_le _, by first | exact Nat.zero_le _ | (show id.size ≤ 300; omega)⟩) (by
                                   have e : rc (rs ++ [(⟨r6 m, none, 0⟩ : RRaw)]) = rc rs ++ #[.int .i64 6, .int .i64 u, .int .i64 md, .int .i64 0, .int .i64 0, .int .i64 0, .string ⟨#[]⟩, .int .i64 0, .slice none 0 0, .string ⟨#[]⟩, .string ⟨#[]⟩].toList := by
                                     rw [rc_append, HMM.out]
                                     rfl
                                   rw [e]
                                   exact hown3) hg3)
                                 clear hown3 hg3 d0 d1 d3))
                              go_roundw
                              case rel => exact ⟨A3, n3 + 1, k3, rs ++ [⟨r6 m, none, 0⟩], j + 1, rfl, hlt2, by go_num, by omega, Lib.hid R3.out.q, Lib.hid (HFIN.out _ (by rw [List.map_append, HA.out, HE2.out]; rfl))⟩
                              case measure => simp [intOf]; omega
                            all_goals
                              have HE : reC f m = [] := by rw [HCq.out]; rfl
                              have HE2 := Lib.hid HE
                              clear HE
                              go_wp2_with fail
                              go_roundw
                              case rel => exact ⟨A, n3, c, rs, j + 1, rfl, hlt2, by go_num, by omega, Lib.hid R1.out.q, Lib.hid (HFIN.out _ (by rw [HA.out, HE2.out, List.append_nil]))⟩
                              case measure => simp [intOf]; omega
            · obtain rfl : mn = j := by omega
              have HE := Lib.hid (show rs.map RRaw.r = rx f b by
                have h := HA.out
                rw [List.take_of_length_le (by rw [hmn]; exact Nat.le_refl _)] at h
                rw [h]
                unfold rx
                rw [List.append_assoc])
              go_wp2_with fail
              go_ret
              exact ⟨A, n, c, rs, rfl, HE.out, R0.out.low, R0.out.bel⟩
end Go.Proofs.YtchlbbndfhibgaaGreatDoor.LwR

namespace Go.Proofs.YtchlbbndfhibgaaGreatDoor.LwG
open Go.RowKit Go.Proofs.YtchlbbndfhibgaaGreatDoor.BxD Go.Proofs.YtchlbbndfhibgaaGreatDoor.BxKit Go.Proofs.YtchlbbndfhibgaaGreatDoor.BxR Go.Proofs.YtchlbbndfhibgaaGreatDoor.BxC Go.Proofs.YtchlbbndfhibgaaGreatDoor.OlD Go.Proofs.YtchlbbndfhibgaaGreatDoor.RwD Go.Proofs.YtchlbbndfhibgaaGreatDoor.RwKit Go.Proofs.YtchlbbndfhibgaaGreatDoor.ImD Go.Proofs.YtchlbbndfhibgaaGreatDoor.ImK Go.Proofs.YtchlbbndfhibgaaGreatDoor.ImL Go.Proofs.YtchlbbndfhibgaaGreatDoor.LwD Go.Proofs.YtchlbbndfhibgaaGreatDoor.LwT Go.Proofs.YtchlbbndfhibgaaGreatDoor.LwK Go.Proofs.YtchlbbndfhibgaaGreatDoor.LwL Go.Proofs.YtchlbbndfhibgaaGreatDoor.LwX Go.Proofs.YtchlbbndfhibgaaGreatDoor.LwR

/-- What a row of the document's rest is. -/
theorem rx_facts {f : Fm} {b : Box} (h : mbE b = 0) {r : Row} (hr : r ∈ rx f b) : (r.kind = 2 ∨ r.kind = 4 ∨ r.kind = 5 ∨ r.kind = 6 ∨ r.kind = 7) ∧ (r.kind = 2 → r.msg.keys.length ≤ 64 ∧ (∀ k ∈ r.msg.keys, 0 ≤ k ∧ k < (b.words.length : Nat)) ∧ r.text = ⟨#[]⟩) ∧ (0 ≤ r.mod ∧ r.mod ≤ 1000000) ∧ (0 ≤ r.uid ∧ r.uid ≤ 999999) ∧ r.text.size ≤ 24 := by
  have g := OlP.good_of h
  have key : ∀ r ∈ re f b, (r.kind = 2 → r.msg.keys.length ≤ 64 ∧ (∀ k ∈ r.msg.keys, 0 ≤ k ∧ k < (b.words.length : Nat)) ∧ r.text = ⟨#[]⟩) := by
    intro r hr h2
    refine ⟨re_keys h r hr, ?_⟩
    rcases ImR.re_mem hr with h7 | h4 | ⟨m, hm, ⟨rfl, _⟩ | ⟨rfl, _⟩ | ⟨rfl, _⟩⟩
    · rw [h2] at h7; exact absurd h7 (by decide)
    · rw [h2] at h4; exact absurd h4 (by decide)
    · obtain ⟨_, _, _, _, _, p6, _⟩ := OlP.mm_parts (g.ms m hm).1
      exact ⟨(keysB_rise p6).2, rfl⟩
    · exact absurd h2 (show ¬ (5 : Int) = 2 by decide)
    · exact absurd h2 (show ¬ (6 : Int) = 2 by decide)
  have done : ∀ r ∈ re f b, (r.kind = 2 ∨ r.kind = 4 ∨ r.kind = 5 ∨ r.kind = 6 ∨ r.kind = 7) ∧ (r.kind = 2 → r.msg.keys.length ≤ 64 ∧ (∀ k ∈ r.msg.keys, 0 ≤ k ∧ k < (b.words.length : Nat)) ∧ r.text = ⟨#[]⟩) ∧ (0 ≤ r.mod ∧ r.mod ≤ 1000000) ∧ (0 ≤ r.uid ∧ r.uid ≤ 999999) ∧ r.text.size ≤ 24 := by
    intro r hr
    obtain ⟨_, a, c, d⟩ := re_facts h hr
    exact ⟨ImR.re_kind hr, key r hr, a, c, d⟩
  unfold rx at hr
  rcases List.mem_append.1 hr with hr | hr
  · exact done r (by unfold re; exact List.mem_append_left _ hr)
  rcases List.mem_append.1 hr with hr | hr
  · exact done r (by unfold re; exact List.mem_append_right _ (List.mem_append_left _ hr))
  obtain ⟨m, hm, hr⟩ := List.mem_flatMap.1 hr
  have inre : ∀ r ∈ reM f b.id m, r ∈ re f b := fun r hr => by unfold re; exact List.mem_append_right _ (List.mem_append_right _ (List.mem_flatMap.2 ⟨m, hm, hr⟩))
  unfold rxM at hr
  rcases List.mem_append.1 hr with hr | hr
  · exact done r (inre r (by unfold reM; exact List.mem_append_left _ hr))
  rcases List.mem_append.1 hr with hr | hr
  · unfold reD at hr
    split at hr
    · rw [List.mem_singleton] at hr
      subst hr
      obtain ⟨p1, p2, _⟩ := OlP.mm_parts (g.ms m hm).1
      exact ⟨.inr (.inr (.inr (.inl rfl))), fun h => absurd h (show ¬ (6 : Int) = 2 by decide), ⟨by show 0 ≤ m.mod; omega, by show m.mod ≤ _; omega⟩, ⟨by show 0 ≤ m.uid; omega, by show m.uid ≤ _; omega⟩, by show (⟨#[]⟩ : ByteArray).size ≤ 24; decide⟩
    · cases hr
  rcases List.mem_append.1 hr with hr | hr
  · exact done r (inre r (by unfold reM; exact List.mem_append_right _ (List.mem_append_left _ hr)))
  · exact done r (inre r (by unfold reM; exact List.mem_append_right _ (List.mem_append_right _ hr)))
/-- One word more. -/
theorem tail_snoc (zs : List (List UInt8)) (y : List UInt8) : Lib.joinTail [32] (zs ++ [y]) = Lib.joinTail [32] zs ++ (32 :: y) := by
  unfold Lib.joinTail
  rw [List.map_append, List.flatten_append]
  simp
theorem jn_snoc (zs : List ByteArray) (y : ByteArray) : jn (zs ++ [y]) = if zs = [] then y.data.toList else jn zs ++ (32 :: y.data.toList) := by
  unfold jn
  cases zs with
  | nil => simp [Lib.join_one]
  | cons x r =>
    rw [if_neg (by simp), List.map_append, List.map_cons, List.cons_append, Lib.join_cons, Lib.join_cons]
    rw [show List.map (fun x => x.data.toList) [y] = [y.data.toList] from rfl, tail_snoc, List.append_assoc]
theorem jn_none {zs : List ByteArray} (h : ∀ x ∈ zs, 0 < x.size) : (⟨(jn zs).toArray⟩ : ByteArray).toList.isEmpty = decide (zs = []) := by
  rw [ByteArray.toList_eq]
  cases zs with
  | nil => rfl
  | cons x r =>
    rw [decide_eq_false (by simp)]
    have hx : 0 < x.size := h x (by simp)
    unfold jn
    rw [List.map_cons, Lib.join_cons]
    have : x.data.toList ≠ [] := fun e => by
      have := congrArg List.length e
      rw [Array.length_toList] at this
      have h2 : x.data.size = x.size := rfl
      have h3 : x.data.size = 0 := this
      omega
    cases hl : x.data.toList with
    | nil => exact absurd hl this
    | cons a l => simp
/-- The text so far. -/
def farS (ws : List ByteArray) (ks : List Int) (i : Nat) : ByteArray := ⟨(jn (wordsOf ws (farK (ks.take i)))).toArray⟩
set_option maxHeartbeats 2000000 in
set_option maxRecDepth 100000 in
theorem rest_three {w : World} {b : Box} {WA MA : Option Addr} {wn wcp mn mcp : Nat} : Calls Tryz.prog 65 #[.int .i64 3, .agg #[.string b.id, .int .i64 b.valid, .int .i64 b.next, .int .i64 b.high, .slice WA wn wcp, .slice MA mn mcp], .bool true] w (RestOut [] w) := by
  have HB := Lib.hid ((Below.refl w.heap.size w).alloc (Nat.le_refl _) (.cells #[.string b.id, .int .i64 b.valid, .int .i64 b.next, .int .i64 b.high, .slice WA wn wcp, .slice MA mn mcp] 25))
  go_enter Tryz.func65, Tryz.ntmps65
  go_wp2_with fail
  go_ret
  exact ⟨none, 0, 0, [], rfl, rfl, RS.nil _ _, HB.out⟩
theorem rest_any {k : Nat} (hk : k = 1 ∨ k = 2 ∨ k = 3) {w : World} {B wn wcp mn mcp : Nat} {WA MA : Option Addr} {b : Box} (ht : BxO.Tab w) (hx : StrsAt w B WA wn b.words) (hm : MsgsAt w B MA mn b.msgs) (hB : B ≤ w.heap.size) (hwc : wn ≤ wcp) (h0 : mbE b = 0) :
    Calls Tryz.prog 65 #[.int .i64 (k : Nat), .agg #[.string b.id, .int .i64 b.valid, .int .i64 b.next, .int .i64 b.high, .slice WA wn wcp, .slice MA mn mcp], .bool true] w (RestOut (rx (fmI k) b) w) := by
  rcases hk with rfl | rfl | rfl
  · exact rest_two (.inl rfl) ht hx hm hB hwc h0
  · exact rest_two (.inr rfl) ht hx hm hB hwc h0
  · rw [show rx (fmI 3) b = [] from rx_three h0]
    exact rest_three
theorem farS_zero (ws : List ByteArray) (ks : List Int) : farS ws ks 0 = ⟨#[]⟩ := by unfold farS; rw [List.take_zero]; rfl
theorem farS_all (ws : List ByteArray) (ks : List Int) : farS ws ks ks.length = farT ws ks := by unfold farS farT; rw [List.take_length]
theorem far_snoc {ks : List Int} {i : Nat} {x : Int} (h : ks[i]? = some x) : farK (ks.take (i + 1)) = farK (ks.take i) ++ (if x < 32 then [] else [x]) := by
  unfold farK
  rw [List.take_add_one, h, List.filter_append]
  by_cases hx : x < 32 <;> simp [hx]
theorem farS_near {ws : List ByteArray} {ks : List Int} {i : Nat} {x : Int} (h : ks[i]? = some x) (hx : x < 32) : farS ws ks (i + 1) = farS ws ks i := by
  unfold farS
  rw [far_snoc h, if_pos hx, List.append_nil]
theorem words_snoc {ws : List ByteArray} {l : List Int} {x : Int} {y : ByteArray} (h0 : 0 ≤ x) (hy : ws[x.toNat]? = some y) : wordsOf ws (l ++ [x]) = wordsOf ws l ++ [y] := by
  unfold wordsOf
  rw [List.flatMap_append]
  congr 1
  simp [word1, h0, hy]
theorem farS_far {ws : List ByteArray} {ks : List Int} {i : Nat} {x : Int} {y : ByteArray} (h : ks[i]? = some x) (hx : ¬ x < 32) (hy : ws[x.toNat]? = some y) (hw : ∀ z ∈ ws, 0 < z.size) :
    farS ws ks (i + 1) = if (farS ws ks i).toList.isEmpty = true then farS ws ks i ++ y else (farS ws ks i ++ ⟨#[32]⟩) ++ y := by
  have hz : ∀ z ∈ wordsOf ws (farK (ks.take i)), 0 < z.size := fun z hz => by
    obtain ⟨k, _, hk⟩ := List.mem_flatMap.1 hz
    unfold word1 at hk
    split at hk
    · cases hq : ws[k.toNat]? with
      | none => rw [hq] at hk; cases hk
      | some q =>
        rw [hq] at hk
        obtain rfl : z = q := by simpa using hk
        exact hw z (List.mem_of_getElem? hq)
    · cases hk
  unfold farS
  rw [jn_none hz, far_snoc h, if_neg hx, words_snoc (by omega) hy, jn_snoc]
  by_cases e : wordsOf ws (farK (ks.take i)) = []
  · rw [if_pos e, e, if_pos (by simp)]
    apply ByteArray.ext
    simp [jn, Lib.join_nil, ByteArray.data_append]
  · rw [if_neg e, if_neg (by simpa using e)]
    apply ByteArray.ext
    simp [ByteArray.data_append, List.append_toArray]
theorem farS_le {ws : List ByteArray} {ks : List Int} (i : Nat) (h : ∀ x ∈ ws, x.size ≤ 24) (hk : ks.length ≤ 64) : (farS ws ks i).size ≤ 1600 := by
  show ((jn (wordsOf ws (farK (ks.take i)))).toArray).size ≤ 1600
  rw [List.size_toArray]
  exact far_le h (by rw [List.length_take]; omega)
/-- The block of a loss. -/
def LBk (w : World) (O : Nat) (kd ru : Int) (tt : ByteArray) : Prop := w.heap[O]? = some (.cells #[.int .i64 kd, .int .i64 ru, .string tt] 50 (0, 0))
theorem LBk.cells {w : World} {O : Nat} {kd ru : Int} {tt : ByteArray} (h : LBk w O kd ru tt) : w.cell? { block := O, off := 0 } = some (.int .i64 kd) ∧ w.cell? { block := O, off := 1 } = some (.int .i64 ru) ∧ w.cell? { block := O, off := 2 } = some (.string tt) ∧ w.frozen? { block := O, off := 2 } = false := by
  have c := fun o => cell_of_row w O o _ _ _ h
  unfold LBk at h
  exact ⟨(c 0).trans rfl, (c 1).trans rfl, (c 2).trans rfl, by simp [World.frozen?, h]⟩
theorem LBk.set {w : World} {O : Nat} {kd ru : Int} {tt : ByteArray} (h : LBk w O kd ru tt) (t2 : ByteArray) : LBk (w.setCell { block := O, off := 2 } (.string t2)) O kd ru t2 := by
  unfold LBk at *
  simp [World.setCell, Array.getElem?_modify, h]
theorem LBk.go {w w2 : World} {O : Nat} {kd ru : Int} {tt : ByteArray} (h : LBk w O kd ru tt) (hb : Below w.heap.size w w2) : LBk w2 O kd ru tt := (hb.block O (Array.getElem?_eq_some_iff.1 h).1).trans h
theorem lf_set {w3 wr : World} {A : Option Addr} {n c O : Nat} {l : List Los} (h : LF w3 wr A n c l) (ho : ∀ g, (Value.slice A n c).ownBlock = some g → g ≠ O) (hO : w3.heap.size ≤ O) (v : Value) : LF w3 (wr.setCell { block := O, off := 2 } v) A n c l :=
  ⟨h.ln, own_block h.own (fun g e => Below.heap_setCell _ _ _ _ (ho g e)), h.bel.setCell hO v⟩
set_option maxHeartbeats 8000000 in
set_option maxRecDepth 100000 in
theorem losses_ok {k : Nat} (hk : k = 1 ∨ k = 2 ∨ k = 3) {w : World} {B wn wcp mn mcp : Nat} {WA MA : Option Addr} {b : Box} (ht : BxO.Tab w) (hx : StrsAt w B WA wn b.words) (hm : MsgsAt w B MA mn b.msgs) (hB : B ≤ w.heap.size) (hwc : wn ≤ wcp) (h0 : mbE b = 0) :
    Calls Tryz.prog 26 #[.int .i64 (k : Nat), .agg #[.string b.id, .int .i64 b.valid, .int .i64 b.next, .int .i64 b.high, .slice WA wn wcp, .slice MA mn mcp]] w (LosOut (ls (fmI k) b) 0 w) := by
  have hb0 := (Below.refl w.heap.size w).alloc (Nat.le_refl _) (.cells #[.string b.id, .int .i64 b.valid, .int .i64 b.next, .int .i64 b.high, .slice WA wn wcp, .slice MA mn mcp] 25)
  have HB0 := Lib.hid hb0
  have HR0 := Lib.hid (heap_alloc_new w (.cells #[.string b.id, .int .i64 b.valid, .int .i64 b.next, .int .i64 b.high, .slice WA wn wcp, .slice MA mn mcp] 25))
  have hs0 : (w.alloc (.cells #[.string b.id, .int .i64 b.valid, .int .i64 b.next, .int .i64 b.high, .slice WA wn wcp, .slice MA mn mcp] 25)).heap.size = w.heap.size + 1 := by simp
  have HT := Lib.hid ht
  have HX := Lib.hid hx
  have HM := Lib.hid hm
  have H0 := Lib.hid h0
  have HLN := Lib.hid (rx_len (fmI_is k) h0)
  have HKK := Lib.hid hk
  have hk1 : decide ((k : Int) < 1) = false := decide_eq_false (by omega)
  have hk2 : decide ((3 : Int) < (k : Int)) = false := decide_eq_false (by omega)
  have km0 := BxB.ref_may (bid := b.id) (bv := b.valid) (bn := b.next) (bh := b.high) (wc := wcp) (mc := mcp) (StrsAt.below hx hb0 hB) (MsgsAt.below hm hb0 hB) (by omega) hwc
  rw [show mbE ⟨b.id, b.valid, b.next, b.high, b.words, b.msgs⟩ = 0 from h0] at km0
  have KM := Lib.hid km0
  rw [← rx_ls]
  obtain ⟨f, hf⟩ : ∃ f, f = fmI k := ⟨_, rfl⟩
  have HFF := Lib.hid hf
  rw [← hf]
  rw [← hf] at HLN
  clear hb0 ht hx hm h0 km0 hf hk
  go_enter Tryz.func26, Tryz.ntmps26
  go_upto_region 1 with fail
  generalize (World.alloc w _) = w1 at HB0 HR0 hs0 KM ⊢
  obtain ⟨b0, b1, b2, b3, b4, b5, _⟩ := six_at HR0.out
  go_upto_region 4 with (go_at_call 11; go_loud (
     refine KM.out.mono ?_
     rintro e w2 ⟨rfl, hb2⟩
     have hs2 := hb2.size
     have HB2 := Lib.hid (HB0.out.trans (hb2.mono (by omega)))
     have HR2 := Lib.hid ((hb2.block w.heap.size (by omega)).trans HR0.out)
     clear hb2 b0 b1 b2 b3 b4 b5))
  clear KM HB0 HR0
  have kr := rest_any HKK.out (b := b) (wcp := wcp) (mcp := mcp) (HT.out.below HB2.out (Nat.le_refl _)) (StrsAt.below HX.out HB2.out hB) (MsgsAt.below HM.out HB2.out hB) (show B ≤ w2.heap.size by omega) hwc H0.out
  rw [← HFF.out] at kr
  have KR := Lib.hid kr
  clear kr
  obtain ⟨b0, b1, b2, b3, b4, b5, _⟩ := six_at HR2.out
  go_upto_region 5 with (go_at_call 65; go_loud (
     refine KR.out.mono ?_
     rintro e w3 ⟨A2, n2, c2, rs, rfl, hr, hS, hb3⟩
     have hs3 := hb3.size
     have hn2 : n2 ≤ 306 := by
       have h1 := hS.ln
       have h2 := HLN.out
       rw [← hr, List.length_map] at h2
       omega
     have HRR := Lib.hid (show RowsAt w3 w3.heap.size A2 n2 (rx f b) by
       have := hS.rows (by omega) (Nat.le_refl w3.heap.size)
       rwa [hr] at this)
     have HB3 := Lib.hid (HB2.out.trans (hb3.mono (by omega)))
     have HR3 := Lib.hid ((hb3.block w.heap.size (by omega)).trans HR2.out)
     clear hr hS hb3 b0 b1 b2 b3 b4 b5))
  clear KR HB2 HR2
  have HLS := Lib.hid (LF.start w3)
  go_loopw [6, 27] (fun s6 s27 wr => ∃ (j : Nat) (A : Option Addr) (n c : Nat), j ≤ n2 ∧ n = j ∧ s6 = .slice A n c ∧ s27 = .int .i64 j ∧ Hid (LF w3 wr A n c (((rx f b).take j).map (lsR b.words)))) (fun _ s27 _ => n2 - (intOf s27).toNat)
  case atStart => exact ⟨0, none, 0, 0, Nat.zero_le _, rfl, rfl, rfl, Lib.hid (by rw [List.take_zero]; exact HLS.out)⟩
  case round =>
    clear HLS
    obtain ⟨j, A, n, c, hj, hnj, rfl, rfl, F3⟩ := hrel
    obtain rfl := hnj
    have hf3 := F3.out.bel.size
    by_cases hlt : n < n2
    · obtain ⟨ad, kd, ru, rm, u, md, d, id, fl, ks, tx, t, K, kn, kc, rfl, hab, e1, r0, r1, r2, r3, r4, r5, r6, r7, r8, r9, r10, hkc, hks, z1, z2, z3⟩ := RowsAt.sp HRR.out F3.out.bel (Nat.le_refl _) hlt
      obtain rfl := hks.len
      have hks64 := hks.max
      obtain ⟨r, hr⟩ : ∃ r : Row, r = ⟨kd, ru, rm, ⟨u, md, d, id, fl, ks, tx⟩, t⟩ := ⟨_, rfl⟩
      rw [← hr] at e1
      obtain ⟨g1, g2, g3, g4, g5⟩ := rx_facts H0.out (List.mem_of_getElem? e1)
      rw [hr] at g1 g2 g3 g4 g5
      dsimp only at g1 g2 g3 g4 g5
      have HE1 := Lib.hid (show ((rx f b).take (n + 1)).map (lsR b.words) = ((rx f b).take n).map (lsR b.words) ++ [lsR b.words r] by
        rw [List.take_add_one, e1, List.map_append]
        rfl)
      have HKS := Lib.hid hks
      have F5 := Lib.hid ((F3.out.alloc (.cells #[.int .i64 kd, .int .i64 ru, .int .i64 rm, .int .i64 u, .int .i64 md, .int .i64 d, .string id, .int .i64 fl, .slice K ks.length kc, .string tx, .string t] 76)).alloc (.cells #[.int .i64 kd, .int .i64 ru, .string t] 50))
      have hbw := ((Below.refl wr.heap.size wr).alloc (Nat.le_refl _) (.cells #[.int .i64 kd, .int .i64 ru, .int .i64 rm, .int .i64 u, .int .i64 md, .int .i64 d, .string id, .int .i64 fl, .slice K ks.length kc, .string tx, .string t] 76)).alloc (by simp) (.cells #[.int .i64 kd, .int .i64 ru, .string t] 50)
      have hra := heap_alloc_new (wr.alloc (.cells #[.int .i64 kd, .int .i64 ru, .int .i64 rm, .int .i64 u, .int .i64 md, .int .i64 d, .string id, .int .i64 fl, .slice K ks.length kc, .string tx, .string t] 76)) (.cells #[.int .i64 kd, .int .i64 ru, .string t] 50)
      rw [show (wr.alloc (.cells #[.int .i64 kd, .int .i64 ru, .int .i64 rm, .int .i64 u, .int .i64 md, .int .i64 d, .string id, .int .i64 fl, .slice K ks.length kc, .string tx, .string t] 76)).heap.size = wr.heap.size + 1 by simp] at hra
      have Q5 := Lib.hid (show LBk ((wr.alloc (.cells #[.int .i64 kd, .int .i64 ru, .int .i64 rm, .int .i64 u, .int .i64 md, .int .i64 d, .string id, .int .i64 fl, .slice K ks.length kc, .string tx, .string t] 76)).alloc (.cells #[.int .i64 kd, .int .i64 ru, .string t] 50)) (wr.heap.size + 1) kd ru t from hra)
      have R5 := Lib.hid ((heap_alloc_old (wr.alloc (.cells #[.int .i64 kd, .int .i64 ru, .int .i64 rm, .int .i64 u, .int .i64 md, .int .i64 d, .string id, .int .i64 fl, .slice K ks.length kc, .string tx, .string t] 76)) (.cells #[.int .i64 kd, .int .i64 ru, .string t] 50) (show wr.heap.size < _ by simp)).trans (heap_alloc_new wr (.cells #[.int .i64 kd, .int .i64 ru, .int .i64 rm, .int .i64 u, .int .i64 md, .int .i64 d, .string id, .int .i64 fl, .slice K ks.length kc, .string tx, .string t] 76)))
      have HBX := Lib.hid (show ((wr.alloc (.cells #[.int .i64 kd, .int .i64 ru, .int .i64 rm, .int .i64 u, .int .i64 md, .int .i64 d, .string id, .int .i64 fl, .slice K ks.length kc, .string tx, .string t] 76)).alloc (.cells #[.int .i64 kd, .int .i64 ru, .string t] 50)).heap[w.heap.size]? = some (.cells #[.string b.id, .int .i64 b.valid, .int .i64 b.next, .int .i64 b.high, .slice WA wn wcp, .slice MA mn mcp] 25 (0, 0)) from (hbw.block w.heap.size (by omega)).trans ((F3.out.bel.block w.heap.size (by omega)).trans HR3.out))
      have HK5 := Lib.hid (IntsAt.below hks hbw (show w3.heap.size ≤ wr.heap.size from hf3))
      have HOL := Lib.hid (fun (g : Nat) (e : (Value.slice A n c).ownBlock = some g) => (F3.out.own.lt g e).2)
      have hsz5 : ((wr.alloc (.cells #[.int .i64 kd, .int .i64 ru, .int .i64 rm, .int .i64 u, .int .i64 md, .int .i64 d, .string id, .int .i64 fl, .slice K ks.length kc, .string tx, .string t] 76)).alloc (.cells #[.int .i64 kd, .int .i64 ru, .string t] 50)).heap.size = wr.heap.size + 2 := by simp
      have HR := Lib.hid hr
      clear e1 hks hbw hra hr
      go_upto_region 8 with fail
      clear r0 r1 r2 r3 r4 r5 r6 r7 r8 r9 r10
      obtain ⟨R, hR⟩ : ∃ R, R = wr.heap.size := ⟨_, rfl⟩
      rw [← hR] at Q5 R5 hsz5 HOL ⊢
      have hRl : w3.heap.size ≤ R := by omega
      clear hR
      generalize (World.alloc (World.alloc wr _) _) = w5 at F5 Q5 R5 HBX HK5 hsz5 ⊢
      have c := fun o => cell_of_row _ R o _ _ _ R5.out
      have a0 := (c 0).trans (show _ = some (Value.int .i64 kd) from rfl)
      have a2 := (c 2).trans (show _ = some (Value.int .i64 rm) from rfl)
      have a8 := (c 8).trans (show _ = some (Value.slice K ks.length kc) from rfl)
      clear c
      have KI0 := itoa_any (n := rm) (HT.out.below (HB3.out.trans (F5.out.bel.mono (by omega))) (Nat.le_refl _)) (by omega) (by omega)
      obtain ⟨t2, ht2⟩ : ∃ t2, t2 = digT rm := ⟨_, rfl⟩
      rw [← ht2] at KI0
      have KI := Lib.hid KI0
      have HT2 := Lib.hid ht2
      clear KI0 ht2
      by_cases h67 : kd = 7 ∨ kd = 6
      · obtain ⟨p0, p1, p2, pf⟩ := Q5.out.cells
        have HLL := Lib.hid (show lsR b.words r = ⟨kd, ru, t2⟩ by
          unfold lsR lostT
          rw [HR.out]
          dsimp only
          rw [if_neg (by rcases h67 with rfl | rfl <;> decide), if_pos (by rcases h67 with h | h; exact .inr h; exact .inl h), HT2.out])
        rcases h67 with rfl | rfl
        · go_upto_region 21 with (go_at_call 64; go_loud (
             refine KI.out.mono ?_
             rintro e w6 ⟨rfl, hb6⟩
             have F6 := Lib.hid (F5.out.go hb6)
             have Q6 := Lib.hid (Q5.out.go hb6)
             have hs6 := hb6.size
             clear hb6 p0 p1 p2 pf a0 a2 a8
             obtain ⟨p0, p1, p2, pf⟩ := Q6.out.cells))
          clear p0 p1 p2 pf
          have F7 := Lib.hid (lf_set (O := R + 1) F6.out (fun g e h => by have := HOL.out g e; omega) (by omega) (.string t2))
          have Q7 := Lib.hid (Q6.out.set t2)
          generalize (World.setCell w6 _ _) = w7 at F7 Q7 ⊢
          obtain ⟨o0, o1, o2, of⟩ := Q7.out.cells
          have hsF := F7.out.bel.size
          have O6 := Lib.hid (F7.out.own.alloc (.cells #[.int .i64 7, .int .i64 ru, .string t2] 50))
          have S6 := Lib.hid (src_new w7 #[.int .i64 7, .int .i64 ru, .string t2] 50 (b := w7.heap.size) (m := 1) (sz := 3) rfl rfl (ones3 _ _ _))
          have Z6 := Lib.hid (show w3.heap.size ≤ (w7.alloc (.cells #[.int .i64 7, .int .i64 ru, .string t2] 50)).heap.size by simp; omega)
          go_wp2_with (at_builtin; go_loud (
             refine wpList_rows elL rfl _ _ rfl rfl rfl O6.out S6.out (by unfold maxLen; omega) (by omega) Z6.out ?_
             intro v9 w9 hown9 hg9 _
             obtain ⟨A9, c9, rfl, hc9⟩ := own_slice hown9
             have F9 := Lib.hid (LF.app (x := ⟨7, ru, t2⟩) (F7.out.alloc (.cells #[.int .i64 7, .int .i64 ru, .string t2] 50)) hown9 hg9)
             clear hown9 hg9 o0 o1 o2 of))
          go_roundw
          case rel => exact ⟨n + 1, A9, n + 1, c9, hlt, rfl, rfl, by go_num, Lib.hid (by rw [HE1.out, HLL.out]; exact F9.out)⟩
          case measure => simp [intOf]; omega
        · go_upto_region 21 with (go_at_call 64; go_loud (
             refine KI.out.mono ?_
             rintro e w6 ⟨rfl, hb6⟩
             have F6 := Lib.hid (F5.out.go hb6)
             have Q6 := Lib.hid (Q5.out.go hb6)
             have hs6 := hb6.size
             clear hb6 p0 p1 p2 pf a0 a2 a8
             obtain ⟨p0, p1, p2, pf⟩ := Q6.out.cells))
          clear p0 p1 p2 pf
          have F7 := Lib.hid (lf_set (O := R + 1) F6.out (fun g e h => by have := HOL.out g e; omega) (by omega) (.string t2))
          have Q7 := Lib.hid (Q6.out.set t2)
          generalize (World.setCell w6 _ _) = w7 at F7 Q7 ⊢
          obtain ⟨o0, o1, o2, of⟩ := Q7.out.cells
          have hsF := F7.out.bel.size
          have O6 := Lib.hid (F7.out.own.alloc (.cells #[.int .i64 6, .int .i64 ru, .string t2] 50))
          have S6 := Lib.hid (src_new w7 #[.int .i64 6, .int .i64 ru, .string t2] 50 (b := w7.heap.size) (m := 1) (sz := 3) rfl rfl (ones3 _ _ _))
          have Z6 := Lib.hid (show w3.heap.size ≤ (w7.alloc (.cells #[.int .i64 6, .int .i64 ru, .string t2] 50)).heap.size by simp; omega)
          go_wp2_with (at_builtin; go_loud (
             refine wpList_rows elL rfl _ _ rfl rfl rfl O6.out S6.out (by unfold maxLen; omega) (by omega) Z6.out ?_
             intro v9 w9 hown9 hg9 _
             obtain ⟨A9, c9, rfl, hc9⟩ := own_slice hown9
             have F9 := Lib.hid (LF.app (x := ⟨6, ru, t2⟩) (F7.out.alloc (.cells #[.int .i64 6, .int .i64 ru, .string t2] 50)) hown9 hg9)
             clear hown9 hg9 o0 o1 o2 of))
          go_roundw
          case rel => exact ⟨n + 1, A9, n + 1, c9, hlt, rfl, rfl, by go_num, Lib.hid (by rw [HE1.out, HLL.out]; exact F9.out)⟩
          case measure => simp [intOf]; omega
      · have k7b : (kd == 7) = false := by simpa using (show ¬ kd = 7 from fun h => h67 (.inl h))
        have k6b : (kd == 6) = false := by simpa using (show ¬ kd = 6 from fun h => h67 (.inr h))
        by_cases k2 : kd = 2
        · have hsr : lsR b.words r = ⟨kd, ru, farT b.words ks⟩ := by
            unfold lsR lostT
            rw [HR.out]
            dsimp only
            rw [if_pos k2]
          have HLL := Lib.hid hsr
          obtain ⟨g2a, g2b, g2t⟩ := g2 k2
          have k2b : (kd == 2) = true := by simpa using k2
          clear hsr k2
          obtain ⟨p0, p1, p2, pf⟩ := Q5.out.cells
          go_upto_region 14 with fail
          clear p0 p1 p2 pf a0 a2 a8
          have QS := Lib.hid (show LBk w5 (R + 1) kd ru (farS b.words ks 0) by rw [farS_zero, ← g2t]; exact Q5.out)
          clear KI HT2 Q5
          have HW := Lib.hid (fun (z : ByteArray) (hz : z ∈ b.words) => atB_size (OlP.wordsB_at (OlP.good_of H0.out).ws z hz))
          go_loopw [53] (fun s53 wq => ∃ i : Nat, i ≤ ks.length ∧ s53 = .int .i64 i ∧ Hid (LBk wq (R + 1) kd ru (farS b.words ks i)) ∧ Hid (LF w3 wq A n c (((rx f b).take n).map (lsR b.words))) ∧ Hid (Below w3.heap.size w5 wq)) (fun s53 _ => ks.length - (intOf s53).toNat)
          case atStart => exact ⟨0, Nat.zero_le _, rfl, QS, F5, Lib.hid (Below.refl _ _)⟩
          case round =>
            rename_i wq
            obtain ⟨i, hi, rfl, QI, FI, BI⟩ := hrel
            have hsi := BI.out.size
            obtain ⟨q0, q1, q2, qf⟩ := QI.out.cells
            by_cases hil : i < ks.length
            · obtain ⟨adk, x, rfl, ex, cx⟩ := IntsAt.at_ HK5.out BI.out (Nat.le_refl _) hil
              obtain ⟨hx0, hxl⟩ := g2b x (List.mem_of_getElem? ex)
              obtain ⟨xn, rfl⟩ : ∃ xn : Nat, x = xn := ⟨x.toNat, by omega⟩
              by_cases hx32 : (xn : Int) < 32
              · have hx3 : decide ((32 : Int) ≤ (xn : Int)) = false := decide_eq_false (by omega)
                go_wp2_with fail
                go_roundw
                case rel => exact ⟨i + 1, hil, by go_num, Lib.hid (by rw [farS_near ex hx32]; exact QI.out), FI, BI⟩
                case measure => simp [intOf]; omega
              · have hx3 : decide ((32 : Int) ≤ (xn : Int)) = true := decide_eq_true (by omega)
                obtain ⟨adw, y, hWA, ey, cy⟩ := BxKit.StrsAt.at_ HX.out (HB3.out.trans (FI.out.bel.mono (by omega))) hB (show xn < wn by have := HX.out.len; omega)
                have bx := (cell_of_row _ w.heap.size 4 _ _ _ ((BI.out.block w.heap.size (by omega)).trans HBX.out)).trans (show _ = some (Value.slice WA wn wcp) from rfl)
                rw [hWA] at bx
                have hxw : xn < wn := by have := HX.out.len; omega
                have hy := HW.out y (List.mem_of_getElem? ey)
                have hT9 := farS_le i (fun z hz => (HW.out z hz).2) g2a
                obtain ⟨T, hT⟩ : ∃ T, T = farS b.words ks i := ⟨_, rfl⟩
                rw [← hT] at q2 hT9
                have HTT := Lib.hid hT
                clear hT
                have l1 : ¬ 9223372036854775807 < T.size + 1 := by omega
                have l2 : ¬ 9223372036854775807 < T.size + y.size := by omega
                have l3 : ¬ 9223372036854775807 < T.size + 1 + y.size := by omega
                by_cases he : T.toList.isEmpty = true
                · have e2 : farS b.words ks (i + 1) = T ++ y := by rw [farS_far ex hx32 (show b.words[((xn : Nat) : Int).toNat]? = some y from ey) (fun z hz => (HW.out z hz).1), ← HTT.out, if_pos he]
                  go_upto_region 19 with fail
                  go_region
                  go_wp2_with fail
                  go_roundw
                  case rel => exact ⟨i + 1, hil, by go_num, Lib.hid (by rw [e2]; exact (QI.out.set (T ++ y)).go ((Below.refl _ _).drew)), Lib.hid ((lf_set (O := R + 1) FI.out (fun g e h => by have := HOL.out g e; omega) (by omega) (.string (T ++ y))).go ((Below.refl _ _).drew)), Lib.hid (Below.drew (Below.setCell BI.out (p := { block := R + 1, off := 2 }) (show w3.heap.size ≤ R + 1 by omega) (.string (T ++ y))))⟩
                  case measure => simp [intOf]; omega
                · rw [Bool.not_eq_true] at he
                  have e2 : farS b.words ks (i + 1) = (T ++ ⟨#[32]⟩) ++ y := by rw [farS_far ex hx32 (show b.words[((xn : Nat) : Int).toNat]? = some y from ey) (fun z hz => (HW.out z hz).1), ← HTT.out, if_neg (by rw [he]; decide)]
                  go_upto_region 19 with fail
                  have FS := Lib.hid (lf_set (O := R + 1) FI.out (fun g e h => by have := HOL.out g e; omega) (by omega) (.string (T ++ ⟨#[32]⟩)))
                  have QS2 := Lib.hid (QI.out.set (T ++ ⟨#[32]⟩))
                  have BS := Lib.hid (Below.setCell BI.out (p := { block := R + 1, off := 2 }) (show w3.heap.size ≤ R + 1 by omega) (.string (T ++ ⟨#[32]⟩)))
                  have l4 : ¬ 9223372036854775807 < (T ++ ⟨#[32]⟩).size + y.size := by
                    rw [ByteArray.size_append]
                    show ¬ 9223372036854775807 < T.size + 1 + y.size
                    omega
                  have hss : wr.heap.size = (wr.setCell { block := R + 1, off := 2 } (.string (T ++ ⟨#[32]⟩))).heap.size := by simp [World.setCell]
                  have bx2 : (wr.setCell { block := R + 1, off := 2 } (.string (T ++ ⟨#[32]⟩))).cell? { block := w.heap.size, off := 4 } = some (.slice (some adw) wn wcp) := by
                    have e := (cell_of_row _ w.heap.size 4 _ _ _ ((BS.out.block w.heap.size (by omega)).trans HBX.out)).trans (show _ = some (Value.slice WA wn wcp) from rfl)
                    rw [hWA] at e
                    exact e
                  have cy2 : (wr.setCell { block := R + 1, off := 2 } (.string (T ++ ⟨#[32]⟩))).cell? (adw.add xn) = some (.string y) := by
                    obtain ⟨adw2, y2, h2, ey2, cy2⟩ := BxKit.StrsAt.at_ HX.out (HB3.out.trans (FS.out.bel.mono (by omega))) hB hxw
                    rw [hWA] at h2
                    cases h2
                    rw [ey] at ey2
                    cases ey2
                    exact cy2
                  obtain ⟨T2, hT2⟩ : ∃ T2, T2 = T ++ ⟨#[32]⟩ := ⟨_, rfl⟩
                  rw [← hT2] at FS QS2 BS l4 hss bx2 cy2 e2 ⊢
                  clear q0 q1 q2 qf cx cy bx l1 l2 l3 hT2
                  generalize (World.setCell wr _ _) = wz at FS QS2 BS hss bx2 cy2 ⊢
                  obtain ⟨q0, q1, q2, qf⟩ := QS2.out.cells
                  go_region
                  go_wp2_with fail
                  go_roundw
                  case rel => exact ⟨i + 1, hil, by go_num, Lib.hid (by rw [e2]; exact (QS2.out.set (T2 ++ y)).go ((Below.refl _ _).drew)), Lib.hid ((lf_set (O := R + 1) FS.out (fun g e h => by have := HOL.out g e; omega) (by omega) (.string (T2 ++ y))).go ((Below.refl _ _).drew)), Lib.hid (Below.drew (Below.setCell BS.out (p := { block := R + 1, off := 2 }) (show w3.heap.size ≤ R + 1 by omega) (.string (T2 ++ y))))⟩
                  case measure => simp [intOf]; omega
            · obtain rfl : i = ks.length := by omega
              clear q0 q1 q2 qf
              obtain ⟨T, hT⟩ : ∃ T, T = farT b.words ks := ⟨_, rfl⟩
              have QJ := Lib.hid (show LBk wr (R + 1) kd ru T by rw [hT, ← farS_all]; exact QI.out)
              have HL2 := Lib.hid (show lsR b.words r = ⟨kd, ru, T⟩ by rw [hT]; exact HLL.out)
              clear hT
              obtain ⟨o0, o1, o2, of⟩ := QJ.out.cells
              have hsF := FI.out.bel.size
              have O6 := Lib.hid (FI.out.own.alloc (.cells #[.int .i64 kd, .int .i64 ru, .string T] 50))
              have S6 := Lib.hid (src_new wr #[.int .i64 kd, .int .i64 ru, .string T] 50 (b := wr.heap.size) (m := 1) (sz := 3) rfl rfl (ones3 _ _ _))
              have Z6 := Lib.hid (show w3.heap.size ≤ (wr.alloc (.cells #[.int .i64 kd, .int .i64 ru, .string T] 50)).heap.size by simp; omega)
              go_wp2_with (at_builtin; go_loud (
                 refine wpList_rows elL rfl _ _ rfl rfl rfl O6.out S6.out (by unfold maxLen; omega) (by omega) Z6.out ?_
                 intro v9 w9 hown9 hg9 _
                 obtain ⟨A9, c9, rfl, hc9⟩ := own_slice hown9
                 have F9 := Lib.hid (LF.app (x := ⟨kd, ru, T⟩) (FI.out.alloc (.cells #[.int .i64 kd, .int .i64 ru, .string T] 50)) hown9 hg9)
                 clear hown9 hg9 o0 o1 o2 of))
              go_roundw
              case rel => exact ⟨n + 1, A9, n + 1, c9, hlt, rfl, rfl, by go_num, Lib.hid (by rw [HE1.out, HL2.out]; exact F9.out)⟩
              case measure => simp [intOf]; omega
        · have k2b : (kd == 2) = false := by simpa using k2
          have HLL := Lib.hid (show lsR b.words r = ⟨kd, ru, t⟩ by
            unfold lsR lostT
            rw [HR.out]
            dsimp only
            rw [if_neg k2, if_neg (fun h => h67 (h.symm))])
          clear KI HT2 a8
          obtain ⟨o0, o1, o2, of⟩ := Q5.out.cells
          have hsF := F5.out.bel.size
          have O6 := Lib.hid (F5.out.own.alloc (.cells #[.int .i64 kd, .int .i64 ru, .string t] 50))
          have S6 := Lib.hid (src_new w5 #[.int .i64 kd, .int .i64 ru, .string t] 50 (b := w5.heap.size) (m := 1) (sz := 3) rfl rfl (ones3 _ _ _))
          have Z6 := Lib.hid (show w3.heap.size ≤ (w5.alloc (.cells #[.int .i64 kd, .int .i64 ru, .string t] 50)).heap.size by simp; omega)
          clear hsz5
          go_wp2_with (at_builtin; go_loud (
             refine wpList_rows elL rfl _ _ rfl rfl rfl O6.out S6.out (by unfold maxLen; omega) (by omega) Z6.out ?_
             intro v9 w9 hown9 hg9 _
             obtain ⟨A9, c9, rfl, hc9⟩ := own_slice hown9
             have F9 := Lib.hid (LF.app (x := ⟨kd, ru, t⟩) (F5.out.alloc (.cells #[.int .i64 kd, .int .i64 ru, .string t] 50)) hown9 hg9)
             clear hown9 hg9 o0 o1 o2 of))
          go_roundw
          case rel => exact ⟨n + 1, A9, n + 1, c9, hlt, rfl, rfl, by go_num, Lib.hid (by rw [HE1.out, HLL.out]; exact F9.out)⟩
          case measure => simp [intOf]; omega
    · obtain rfl : n2 = n := by omega
      have FE := Lib.hid (show LF w3 wr A n2 c ((rx f b).map (lsR b.words)) by
        have := F3.out
        rw [List.take_of_length_le (by rw [HRR.out.len]; exact Nat.le_refl _)] at this
        exact this)
      clear F3
      go_wp2_with fail
      refine bodyPost_ret (v := .tuple #[.slice A n2 c, .int .i64 0]) (by rw [results_tmp2 (t := 4) (u := 5) rfl]; rfl) rfl ?_
      exact ⟨A, n2, c, rfl, FE.out.le, FE.out.at_ (by omega), HB3.out.trans (FE.out.bel.mono (by omega))⟩
end Go.Proofs.YtchlbbndfhibgaaGreatDoor.LwG
