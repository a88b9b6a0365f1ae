/-
  RowKeeps: what is added and taken away again is as it was; other messages are untouched.
-/
import Derived.Test.YtmkbmdoglcimbaaDoorRwF
import Derived.Test.YtmkbmdoglcimbaaDoorRwApi
import Derived.Test.YtmkbmdoglcimbaaDoorRwFlg
import Derived.Test.YtmkbmdoglcimbaaDoorBxB
import Derived.Test.YtmkbmdoglcimbaaDoorBxH
import Derived.Test.YtmkbmdoglcimbaaDoorBxX
import Derived.Test.YtmkbmdoglcimbaaDoorBxF
import Derived.Test.YtmkbmdoglcimbaaDoorBxV
import Derived.Deep.DeepCutAuto
import Derived.Deep.RegionHeld3
namespace Go.Proofs.YtmkbmdoglcimbaaDoor.RwK
open Go.RowKit Go.Proofs.YtmkbmdoglcimbaaDoor.BxD Go.Proofs.YtmkbmdoglcimbaaDoor.BxOp Go.Proofs.YtmkbmdoglcimbaaDoor.RwD Go.Proofs.YtmkbmdoglcimbaaDoor.RwM Go.Proofs.YtmkbmdoglcimbaaDoor.RwF

theorem wordsOf_append {ws l : List ByteArray} : ∀ {ks : List Int}, (∀ k ∈ ks, 0 ≤ k ∧ k < (ws.length : Int)) → wordsOf (ws ++ l) ks = wordsOf ws ks
  | [], _ => rfl
  | k :: r, h => by
    obtain ⟨a1, a2⟩ := h k (by simp)
    have ih := wordsOf_append (ws := ws) (l := l) (ks := r) fun x hx => h x (by simp [hx])
    have hlt : k.toNat < ws.length := by omega
    unfold wordsOf at ih ⊢
    rw [List.flatMap_cons, List.flatMap_cons, ih]
    congr 1
    unfold word1
    rw [if_pos a1, if_pos a1, List.getElem?_append_left hlt]
theorem getD_append {ws l : List ByteArray} {k : Nat} (h : k < ws.length) : (ws ++ l).getD k emT = ws.getD k emT := by
  rw [List.getD_eq_getElem?_getD, List.getD_eq_getElem?_getD, List.getElem?_append_left h]
theorem wordsOf_mem {ws : List ByteArray} {ks : List Int} {k : Int} (hk : k ∈ ks) (h0 : 0 ≤ k) (h1 : k < (ws.length : Int)) : ws.getD k.toNat emT ∈ wordsOf ws ks := by
  unfold wordsOf
  rw [List.mem_flatMap]
  refine ⟨k, hk, ?_⟩
  have hlt : k.toNat < ws.length := by omega
  rw [word1_in h0 (List.getElem?_eq_getElem hlt), getD_some emT (List.getElem?_eq_getElem hlt)]
  simp
theorem lessK_self {ws words : List ByteArray} {ks : List Int} (hk : ∀ k ∈ ks, 0 ≤ k ∧ k < (ws.length : Int)) (h : ∀ w ∈ wordsOf ws ks, w ∉ words) : lessK ws words ks = ks := by
  unfold lessK
  rw [List.filter_eq_self]
  intro k hm
  have := h _ (wordsOf_mem hm (hk k hm).1 (hk k hm).2)
  simpa using this
theorem lessK_more {ws words : List ByteArray} {ks : List Int} (hk : keysB ks ws.length = true) (h : ∀ w ∈ wordsOf ws ks, w ∉ words) : lessK (allW ws words) words (moreK (allW ws words) words ks) = ks := by
  obtain ⟨h1, h2⟩ := (keysB_iff _ _).1 hk
  refine rise_ext ((idx_rise _ _).sublist List.filter_sublist) h2 fun k => ?_
  have hle : ws.length ≤ (allW ws words).length := by unfold allW; simp
  have hin : k ∈ ks → (allW ws words).getD k.toNat emT ∉ words := fun hm => by
    obtain ⟨a, c⟩ := h1 k hm
    unfold allW
    rw [getD_append (by omega)]
    exact h _ (wordsOf_mem hm a c)
  unfold lessK moreK
  rw [List.mem_filter, idx_mem]
  constructor
  · intro ⟨⟨i, hi, hp, e⟩, hn⟩
    subst e
    simp only [Int.toNat_natCast, decide_eq_true_eq] at hn
    rw [Bool.or_eq_true, decide_eq_true_eq, decide_eq_true_eq] at hp
    rcases hp with hp | hp
    · exact absurd hp hn
    · exact hp
  · intro hm
    obtain ⟨a, c⟩ := h1 k hm
    refine ⟨⟨k.toNat, by omega, ?_, by omega⟩, by simpa using hin hm⟩
    rw [Bool.or_eq_true]
    right
    rw [Int.toNat_of_nonneg a]
    simpa using hm
theorem flC_words2 (b : Box) (m : Msg) (u flags : Int) (words : List ByteArray) : (flC b m u flags words 2).words = b.words := by
  unfold flC
  split
  · rfl
  · show flAll b words 2 = _
    unfold flAll
    rw [if_pos rfl]
/-- More, and then less: the message has its words, and its flags but for those. -/
theorem keeps {b : Box} {u flags : Int} {words : List ByteArray} {m : Msg} {k : Nat} (h : flE b u flags words 1 = 0) (hk : b.msgs[k]? = some m) (hu : m.uid = u) (hhi : b.high ≤ 999991) (hno : ∀ w ∈ wordsOf b.words m.keys, w ∉ words) :
    ∃ m1, theM b.msgs u = some m ∧ theM (flC b m u flags words 1).msgs u = some m1 ∧ flE (flC b m u flags words 1) u flags words 2 = 0 ∧ mbE (flC b m u flags words 1) = 0 ∧
      (flC (flC b m u flags words 1) m1 u flags words 2).msgs.length = b.msgs.length ∧ (∀ j x, b.msgs[j]? = some x → j ≠ k → (flC (flC b m u flags words 1) m1 u flags words 2).msgs[j]? = some x) ∧
      ∃ y, (flC (flC b m u flags words 1) m1 u flags words 2).msgs[k]? = some y ∧ y.flags = notI m.flags flags ∧ wordsOf (flC (flC b m u flags words 1) m1 u flags words 2).words y.keys = wordsOf b.words m.keys := by
  obtain ⟨h1, h2, h3, _, m', hm', h5⟩ := flE_parts h
  obtain ⟨g1, g2, g3, g4, g5, g6⟩ := (mb_iff b).1 h1
  have hm : theM b.msgs u = some m := by have := (theM_at g6 hk).1; rwa [hu] at this
  obtain rfl : m' = m := Option.some.inj (hm'.symm.trans hm)
  obtain ⟨_, hmay⟩ := fl_done h hm
  obtain ⟨c1, c2, c3⟩ := flC_at (flags := flags) (words := words) (how := 1) h1 hk hu
  obtain ⟨e1, e2, e3, e4, e5, e6⟩ := (mb_iff _).1 hmay
  obtain ⟨_, _, _, _, q5, q6, _⟩ := mm_parts (g5 m' (List.mem_of_getElem? hk)).1
  obtain ⟨kk1, kk2⟩ := (keysB_iff _ _).1 q6
  obtain ⟨_, _, _, _, _, _, a7⟩ := bits_of q5 h2
  obtain ⟨m1, hm1⟩ : ∃ m1, m1 = (if flSame b m' flags words 1 then m' else flM b flags words 1 m') := ⟨_, rfl⟩
  rw [← hm1] at c1
  have u1 : m1.uid = u := by rw [hm1]; split <;> exact hu
  have f1 : m1.flags = orI m'.flags flags := by
    rw [hm1]
    split
    · rename_i hs
      exact hs.1.symm
    · rfl
  have k1 : m1.keys = moreK (allW b.words words) words m'.keys := by
    rw [hm1]
    split
    · rename_i hs
      exact hs.2.symm
    · rfl
  have t1 : theM (flC b m' u flags words 1).msgs u = some m1 := by have := (theM_at e6 c1).1; rwa [u1] at this
  have hcw : (flC b m' u flags words 1).words = if flSame b m' flags words 1 then b.words else allW b.words words := by
    unfold flC
    split
    · rfl
    · show flAll b words 1 = _
      unfold flAll
      rw [if_neg (by decide)]
  have hch : (flC b m' u flags words 1).high ≤ b.high + 1 := by
    unfold flC
    split
    · omega
    · exact Int.le_refl _
  have hE : flE (flC b m' u flags words 1) u flags words 2 = 0 := by
    unfold flE
    rw [if_neg (by
      simp only [not_or, Classical.not_not, Bool.not_eq_false]
      exact ⟨hmay, inB_true h2.1 h2.2, h3, by decide⟩), t1]
    dsimp only
    split
    · rfl
    · rw [if_neg (by unfold flAll; rw [if_pos rfl]; omega), if_neg (by omega)]
  obtain ⟨d1, d2, d3⟩ := flC_at (flags := flags) (words := words) (how := 2) hmay c1 u1
  have hless : lessK (flC b m' u flags words 1).words words m1.keys = m'.keys := by
    rw [hcw, k1]
    split
    · rename_i hs
      have e : moreK (allW b.words words) words m'.keys = m'.keys := hs.2
      rw [e]
      exact lessK_self kk1 hno
    · exact lessK_more q6 hno
  have hdw := flC_words2 (flC b m' u flags words 1) m1 u flags words
  refine ⟨m1, hm, t1, hE, hmay, d2.trans c2, fun j x hx hj => d3 j x (c3 j x hx hj) hj, _, d1, ?_, ?_⟩
  · have : (if flSame (flC b m' u flags words 1) m1 flags words 2 then m1 else flM (flC b m' u flags words 1) flags words 2 m1).flags = notI m1.flags flags := by
      split
      · rename_i hs; exact hs.1.symm
      · rfl
    rw [this, f1, a7]
  · have : (if flSame (flC b m' u flags words 1) m1 flags words 2 then m1 else flM (flC b m' u flags words 1) flags words 2 m1).keys = lessK (flC b m' u flags words 1).words words m1.keys := by
      split
      · rename_i hs; exact hs.2.symm
      · rfl
    rw [this, hless, hdw, hcw]
    split
    · rfl
    · unfold allW; exact wordsOf_append kk1
end Go.Proofs.YtmkbmdoglcimbaaDoor.RwK

namespace Go.Proofs.YtmkbmdoglcimbaaDoor.RwKeeps
open Go.RowKit Go.Proofs.YtmkbmdoglcimbaaDoor.BxD Go.Proofs.YtmkbmdoglcimbaaDoor.BxKit Go.Proofs.YtmkbmdoglcimbaaDoor.BxA Go.Proofs.YtmkbmdoglcimbaaDoor.BxB Go.Proofs.YtmkbmdoglcimbaaDoor.BxR Go.Proofs.YtmkbmdoglcimbaaDoor.BxH Go.Proofs.YtmkbmdoglcimbaaDoor.BxS Go.Proofs.YtmkbmdoglcimbaaDoor.BxX Go.Proofs.YtmkbmdoglcimbaaDoor.BxF Go.Proofs.YtmkbmdoglcimbaaDoor.BxV Go.Proofs.YtmkbmdoglcimbaaDoor.BxOp Go.Proofs.YtmkbmdoglcimbaaDoor.RwD Go.Proofs.YtmkbmdoglcimbaaDoor.RwM Go.Proofs.YtmkbmdoglcimbaaDoor.RwF Go.Proofs.YtmkbmdoglcimbaaDoor.RwK Go.Proofs.YtmkbmdoglcimbaaDoor.RwKit Go.Proofs.YtmkbmdoglcimbaaDoor.RwApi Go.Proofs.YtmkbmdoglcimbaaDoor.RwApi2

theorem seven_at {wr : World} {L : Nat} {c0 c1 c2 c3 c4 c5 c6 : Value} {t : TypeId} (h : wr.heap[L]? = some (.cells #[c0, c1, c2, c3, c4, c5, c6] t (0, 0))) :
    wr.cell? { block := L, off := 0 } = some c0 ∧ wr.cell? { block := L, off := 1 } = some c1 ∧ wr.cell? { block := L, off := 2 } = some c2 ∧ wr.cell? { block := L, off := 3 } = some c3 ∧ wr.cell? { block := L, off := 4 } = some c4 ∧ wr.cell? { block := L, off := 5 } = some c5 ∧ wr.cell? { block := L, off := 6 } = some c6 := by
  have c : ∀ o, wr.cell? { block := L, off := o } = (#[c0, c1, c2, c3, c4, c5, c6] : Array Value)[o]? := fun o => cell_of_row wr L o _ _ _ h
  exact ⟨(c 0).trans rfl, (c 1).trans rfl, (c 2).trans rfl, (c 3).trans rfl, (c 4).trans rfl, (c 5).trans rfl, (c 6).trans rfl⟩
theorem not_yet {l words : List ByteArray} {i : Nat} {x : ByteArray} (h : ∀ j y, j < i → l[j]? = some y → y ∉ words) (hx : l[i]? = some x) (hn : x ∉ words) : ∀ j y, j < i + 1 → l[j]? = some y → y ∉ words := by
  intro j y hj hy
  by_cases e : j = i
  · subst e; rw [hx] at hy; rw [← Option.some.inj hy]; exact hn
  · exact h j y (by omega) hy
theorem keys_short {ks : List Int} {n : Nat} (h : keysB ks n = true) : ks.length ≤ n := by
  obtain ⟨h1, h2⟩ := (keysB_iff _ _).1 h
  have := len_le (a := ks) (b := (List.range n).map fun (i : Nat) => (i : Int)) (h2.imp fun h e => by omega) fun x hx => by
    obtain ⟨a, c⟩ := h1 x hx
    exact List.mem_map.2 ⟨x.toNat, List.mem_range.2 (by omega), by omega⟩
  simpa using this
theorem flP_few {b : Box} {u flags how : Int} {words : List ByteArray} (hb : mbE b = 0) : ∀ r ∈ flP b u flags words how, r.msg.keys.length ≤ 1000000 := by
  intro r hr
  unfold flP RwW17.flP at hr
  split at hr
  · rename_i he
    obtain ⟨_, _, _, _, m, hm, h⟩ := flE_parts he
    unfold flL at hr
    rw [hm] at hr
    dsimp only at hr
    split at hr
    · simp at hr
    · rename_i hs
      rcases h with h | ⟨h, _⟩
      · exact absurd h hs
      rcases List.mem_append.1 hr with hr | hr
      · obtain ⟨x, _, rfl⟩ := List.mem_map.1 hr
        exact Nat.zero_le _
      · obtain rfl := List.mem_singleton.1 hr
        obtain ⟨_, _, _, _, hms, _⟩ := (mb_iff b).1 hb
        obtain ⟨_, _, _, _, _, q6, _⟩ := mm_parts (hms m (theM_mem hm).1).1
        have h1 := RwOwn.keys_le (flKeys_ok (words := words) (how := how) q6)
        show (flKeys b m words how).length ≤ 1000000
        omega
  · simp at hr
theorem all_flags {b : Box} {m : Msg} {u flags how : Int} {words : List ByteArray} (h : flE b u flags words how = 0) (hm : theM b.msgs u = some m) : allP b (flP b u flags words how) = (flC b m u flags words how, 0) := by
  unfold allP flP RwW17.flP
  rw [if_pos (flE_parts h).1, if_pos h]
  exact (fl_done h hm).1

set_option maxHeartbeats 4000000 in
set_option maxRecDepth 100000 in
theorem walk {b : Box} {u flags : Int} {WA MA A : Option Addr} {wn wc_ mn mc n cp : Nat} {words : List ByteArray} {w : World} (ht : Tab w)
    (h1 : StrsAt w w.heap.size WA wn b.words) (h2 : MsgsAt w w.heap.size MA mn b.msgs) (h3 : StrsAt w w.heap.size A n words) (hwc : wn ≤ wc_) (hmc : mn ≤ mc) (hcp : n ≤ cp) (z1 : b.id.size ≤ 140737488355328) :
    Calls Tryd.prog 6 #[.agg #[.string b.id, .int .i64 b.valid, .int .i64 b.next, .int .i64 b.high, .slice WA wn wc_, .slice MA mn mc], .int .i64 u, .int .i64 flags, .slice A n cp] w fun e w' => e = .returned (.bool true) ∧ Below w.heap.size w w' := by
  have KH := fun o => heavy_any (bid := b.id) (bv := b.valid) (bn := b.next) (bh := b.high) (wc := wc_) (mc := mc) (StrsAt.below h1 ((Below.refl _ w).alloc (Nat.le_refl _) o) (Nat.le_refl _)) (MsgsAt.below h2 ((Below.refl _ w).alloc (Nat.le_refl _) o) (Nat.le_refl _)) (by simp) (by simp) z1
  have KM := fun (wr : World) (h : After w (.cells #[.string b.id, .int .i64 b.valid, .int .i64 b.next, .int .i64 b.high, .slice WA wn wc_, .slice MA mn mc] 25) wr) => ref_may (bid := b.id) (bv := b.valid) (bn := b.next) (bh := b.high) (wc := wc_) (mc := mc) (StrsAt.below h1 h.below (Nat.le_refl _)) (MsgsAt.below h2 h.below (Nat.le_refl _)) h.below.size hwc
  have HAW := Lib.hid (fun (wr : World) (h : Below w.heap.size w wr) => awake (ht.below h))
  have HS := Lib.hid (After.start w (.cells #[.string b.id, .int .i64 b.valid, .int .i64 b.next, .int .i64 b.high, .slice WA wn wc_, .slice MA mn mc] 25))
  have HX := Lib.hid h1
  have HM := Lib.hid h2
  have HL := Lib.hid h3
  have hn := h3.max
  have HTAB := Lib.hid ht
  clear h1 h2 h3 ht
  rcases hv_or b.id b.words b.msgs with hh | ⟨hh, _, _, hk1⟩
  · simp only [hh] at KH
    have K1 := Lib.hid KH
    clear KH hh KM
    go_enter Tryd.func6, Tryd.ntmps6
    go_wp2_with fail
    refine (K1.out _).mono ?_
    rintro e w1 ⟨rfl, hb1⟩
    have HB := Lib.hid (HS.out.go hb1).below
    clear hb1
    go_wp2_with (go_at_call 10; refine (HAW.out _ HB.out).mono ?_; rintro e w9 ⟨rfl, hb9⟩)
    go_ret
    exact ⟨rfl, HB.out.trans (hb9.mono HB.out.size)⟩
  simp only [hh] at KH
  have K1 := Lib.hid KH
  have HK1 := Lib.hid hk1
  clear KH hh hk1
  by_cases hn6 : 10 < n
  · have hn6' : 10 < (n : Int) := by omega
    go_enter Tryd.func6, Tryd.ntmps6
    go_wp2_with fail
    refine (K1.out _).mono ?_
    rintro e w1 ⟨rfl, hb1⟩
    have HB := Lib.hid (HS.out.go hb1).below
    clear hb1
    go_wp2_with (go_at_call 10; refine (HAW.out _ HB.out).mono ?_; rintro e w9 ⟨rfl, hb9⟩)
    go_ret
    exact ⟨rfl, HB.out.trans (hb9.mono HB.out.size)⟩
  have hn6' : (n : Int) ≤ 10 := by omega
  clear hn6
  obtain ⟨em, hem⟩ : ∃ em, em = mbE ⟨b.id, b.valid, b.next, b.high, b.words, b.msgs⟩ := ⟨_, rfl⟩
  rw [← hem] at KM
  have K4 := Lib.hid KM
  clear KM
  by_cases he : em = 0
  case neg =>
    have hne : (em != 0) = true := by simpa using he
    clear he hem
    go_enter Tryd.func6, Tryd.ntmps6
    go_wp2_with fail
    refine (K1.out _).mono ?_
    rintro e w1 ⟨rfl, hb1⟩
    have H1 := Lib.hid (HS.out.go hb1)
    obtain ⟨b0, b1, b2, b3, b4, b5⟩ := H1.out.box
    clear hb1
    go_wp2_with fail
    refine (K4.out _ H1.out).mono ?_
    rintro e w3 ⟨rfl, hb3⟩
    have HB := Lib.hid (H1.out.go hb3).below
    clear hb3
    go_wp2_with (go_at_call 10; refine (HAW.out _ HB.out).mono ?_; rintro e w9 ⟨rfl, hb9⟩)
    go_ret
    exact ⟨rfl, HB.out.trans (hb9.mono HB.out.size)⟩
  subst he
  have HE := Lib.hid (show mbE b = 0 from hem.symm)
  clear hem
  go_enter Tryd.func6, Tryd.ntmps6
  go_wp2_with fail
  refine (K1.out _).mono ?_
  rintro e w1 ⟨rfl, hb1⟩
  have H1 := Lib.hid (HS.out.go hb1)
  obtain ⟨b0, b1, b2, b3, b4, b5⟩ := H1.out.box
  clear hb1
  go_wp2_with fail
  refine (K4.out _ H1.out).mono ?_
  rintro e w3 ⟨rfl, hb3⟩
  have H3 := Lib.hid (H1.out.go hb3)
  clear hb3 K4 K1 b0 b1 b2 b3 b4 b5 H1
  obtain ⟨b0, b1, b2, b3, b4, b5⟩ := H3.out.box
  by_cases hhi : 999991 < b.high
  · have HB := Lib.hid H3.out.below
    go_wp2_with (go_at_call 10; refine (HAW.out _ HB.out).mono ?_; rintro e w9 ⟨rfl, hb9⟩)
    go_ret
    exact ⟨rfl, HB.out.trans (hb9.mono HB.out.size)⟩
  have hhi' : b.high ≤ 999991 := by omega
  clear hhi
  have HI := Lib.hid (show Sb w w3 w.heap.size b WA wn wc_ MA mn mc from Sb.first rfl H3.out HX.out HM.out hwc hmc)
  have KF := Lib.hid (find_any (bid := b.id) (bv := b.valid) (bn := b.next) (bh := b.high) (uid := u) (WA := WA) (wn := wn) (wc := wc_) (mc := mc) HI.out.ms (Nat.le_refl _))
  clear HS H3 HM HX
  go_wp2_with fail
  refine KF.out.mono ?_
  rintro e w4 ⟨rfl, hb4⟩
  have HI4 := Lib.hid (HI.out.go hb4)
  clear hb4 KF HI b0 b1 b2 b3 b4 b5
  obtain ⟨b0, b1, b2, b3, b4, b5, _⟩ := six_at HI4.out.blk
  have hfl := flags_any (u := u) (flags := flags) (how := 1) (n := n) (cp := cp) (HTAB.out.below HI4.out.bel) HI4.out.ws HI4.out.ms hwc hmc (Nat.le_refl _) (StrsAt.more (StrsAt.below HL.out HI4.out.bel (Nat.le_refl _)) HI4.out.bel.size) hcp (by omega) (.inl (by omega))
  have HFL := Lib.hid hfl
  clear hfl
  go_wp2_with fail
  refine HFL.out.mono ?_
  rintro e w5 ⟨A1, n1, c1, rfl, hc1, hr1, hb5⟩
  have HI5 := Lib.hid (HI4.out.go hb5)
  have HR1 := Lib.hid hr1
  clear hb5 hr1 HFL HI4 b0 b1 b2 b3 b4 b5
  obtain ⟨b0, b1, b2, b3, b4, b5, _⟩ := six_at HI5.out.blk
  by_cases hE : flE b u flags words 1 = 0
  case neg =>
    have hne : (flE b u flags words 1 != 0) = true := by simpa using hE
    have HB := Lib.hid HI5.out.bel
    generalize flE b u flags words 1 = ef at hne ⊢
    clear hE
    go_wp2_with (go_at_call 10; refine (HAW.out _ HB.out).mono ?_; rintro e w9 ⟨rfl, hb9⟩)
    go_ret
    exact ⟨rfl, HB.out.trans (hb9.mono HB.out.size)⟩
  obtain ⟨hfl2, _, _, _, m, hm, _⟩ := flE_parts hE
  obtain ⟨hmem, hmu⟩ := theM_mem hm
  obtain ⟨k, hk⟩ := List.mem_iff_getElem?.1 hmem
  obtain ⟨_, _, _, _, _, hrise⟩ := (mb_iff b).1 HE.out
  have hfi : findI b.msgs u = (k : Int) := by have := (theM_at hrise hk).2; rwa [hmu] at this
  have hkl := (List.getElem?_eq_some_iff.1 hk).1
  have hmn := HI5.out.ms.len
  have hkm : k < mn := by omega
  rw [hE, hfi]
  have HKE := Lib.hid hE
  have HKK := Lib.hid hk
  have HKU := Lib.hid hmu
  have HTM := Lib.hid hm
  have g1 : (0 : Int) ≤ (k : Int) := by omega
  have g2 : (k : Int) < (mn : Int) := by omega
  clear hE hm hmem hk hmu hrise hfi hkl hmn hfl2
  obtain ⟨ad, u', md, d, id, fl, ks, tx, K, kn, kc, rfl, _, e1, c0, c1_, c2, c3, c4, c5, c6, hkc, hks, _, _⟩ := MsgsAt.sp HI5.out.ms (Below.refl _ _) (Nat.le_refl _) hkm
  obtain rfl : (⟨u', md, d, id, fl, ks, tx⟩ : Msg) = m := Option.some.inj (e1.symm.trans HKK.out)
  have hkl : kn ≤ 60000 := by rw [← hks.len]; exact HK1.out _ (List.mem_of_getElem? e1)
  go_upto_region 8 with fail
  have HI6 := Lib.hid (HI5.out.alloc (.cells #[.int .i64 u', .int .i64 md, .int .i64 d, .string id, .int .i64 fl, .slice K kn kc, .string tx] 28))
  have HMB := Lib.hid (heap_alloc_new w5 (.cells #[.int .i64 u', .int .i64 md, .int .i64 d, .string id, .int .i64 fl, .slice K kn kc, .string tx] 28))
  have hks6 := IntsAt.more (IntsAt.below hks ((Below.refl _ _).alloc (Nat.le_refl _) (.cells #[.int .i64 u', .int .i64 md, .int .i64 d, .string id, .int .i64 fl, .slice K kn kc, .string tx] 28)) (Nat.le_refl _)) (show w5.heap.size ≤ (w5.alloc (.cells #[.int .i64 u', .int .i64 md, .int .i64 d, .string id, .int .i64 fl, .slice K kn kc, .string tx] 28)).heap.size by simp)
  have HR6 := Lib.hid (RowsAt.more (RowsAt.below HR1.out ((Below.refl _ _).alloc (Nat.le_refl _) (.cells #[.int .i64 u', .int .i64 md, .int .i64 d, .string id, .int .i64 fl, .slice K kn kc, .string tx] 28)) (Nat.le_refl _)) (show w5.heap.size ≤ (w5.alloc (.cells #[.int .i64 u', .int .i64 md, .int .i64 d, .string id, .int .i64 fl, .slice K kn kc, .string tx] 28)).heap.size by simp))
  obtain ⟨M, hM⟩ : ∃ M, M = w5.heap.size := ⟨_, rfl⟩
  rw [← hM] at HMB ⊢
  clear hM b0 b1 b2 b3 b4 b5 c0 c1_ c2 c3 c4 c5 c6 hks HI5 HR1 e1
  generalize (World.alloc w5 _) = W6 at HI6 HMB hks6 HR6 ⊢
  obtain ⟨b0, b1, b2, b3, b4, b5, _⟩ := six_at HI6.out.blk
  obtain ⟨c0, c1_, c2, c3, c4, c5, c6⟩ := seven_at HMB.out
  have KW := Lib.hid (refWords_any (bid := b.id) (id := id) (tx := tx) (bv := b.valid) (bn := b.next) (bh := b.high) (u := u') (md := md) (d := d) (fl := fl) (MA := some ad) (wc := wc_) (mn := mn) (mc := mc) (kc := kc) HI6.out.ws hks6 (Nat.le_refl _) (Nat.le_refl _) hkl)
  go_wp2_with fail
  refine KW.out.mono ?_
  rintro e w7 ⟨A5, n5, c5', rfl, hc5, hs5, hb7⟩
  have HI7 := Lib.hid (HI6.out.go hb7)
  have HMB7 := Lib.hid ((hb7.block M (Array.getElem?_eq_some_iff.1 HMB.out).1).trans HMB.out)
  have HR7 := Lib.hid (RowsAt.more (RowsAt.below HR6.out hb7 (Nat.le_refl _)) hb7.size)
  have hks7 := Lib.hid (IntsAt.more (IntsAt.below hks6 hb7 (Nat.le_refl _)) hb7.size)
  have HS5 := Lib.hid hs5
  have hn5 := hs5.max
  have hl5 := hs5.len
  have KHAS := Lib.hid (fun s => has_any (cp := cp) s (StrsAt.below HL.out HI7.out.bel (Nat.le_refl _)))
  clear hb7 hs5 hks6 HI6 HMB HR6 KW b0 b1 b2 b3 b4 b5 c0 c1_ c2 c3 c4 c5 c6
  go_wp2_with fail
  go_loop [81] (fun s81 => ∃ i : Nat, i ≤ n5 ∧ s81 = .int .i64 i ∧ Hid (∀ j y, j < i → (wordsOf b.words ks)[j]? = some y → y ∉ words)) (fun s81 => n5 - (intOf s81).toNat)
  case atStart => exact ⟨0, Nat.zero_le _, rfl, fun j _ hj => absurd hj (Nat.not_lt_zero _)⟩
  case round =>
    obtain ⟨i, hi, rfl, HNO⟩ := hrel
    by_cases hlt : i < n5
    · obtain ⟨ad5, x5, rfl, e5, hc5x⟩ := StrsAt.at_ HS5.out (Below.refl w7.heap.size w7) (Nat.le_refl _) hlt
      by_cases hin : x5 ∈ words
      · have K := Lib.hid (show Calls Tryd.prog 26 #[.slice A n cp, .string x5] w7 fun e w' => e = .returned (.bool true) ∧ w7 = w' by
          have := KHAS.out x5
          rwa [decide_eq_true hin] at this)
        have HB := Lib.hid HI7.out.bel
        clear e5 hin
        go_wp2_with fail
        refine K.out.mono ?_
        rintro e w' ⟨rfl, rfl⟩
        go_wp2_with (go_at_call 10; refine (HAW.out _ HB.out).mono ?_; rintro e w9 ⟨rfl, hb9⟩)
        go_ret
        exact ⟨rfl, HB.out.trans (hb9.mono HB.out.size)⟩
      · have K := Lib.hid (show Calls Tryd.prog 26 #[.slice A n cp, .string x5] w7 fun e w' => e = .returned (.bool false) ∧ w7 = w' by
          have := KHAS.out x5
          rwa [decide_eq_false hin] at this)
        have HN2 := Lib.hid (not_yet HNO.out e5 hin)
        clear e5 hin
        go_wp2_with fail
        refine K.out.mono ?_
        rintro e w' ⟨rfl, rfl⟩
        go_wp2_with fail
        go_round
        case rel => exact ⟨i + 1, by omega, by go_num, HN2⟩
        case measure => simp [intOf]; omega
    · obtain rfl : n5 = i := by omega
      have hno : ∀ x ∈ wordsOf b.words (⟨u', md, d, id, fl, ks, tx⟩ : Msg).keys, x ∉ words := fun x hx => by
        obtain ⟨j, hj⟩ := List.mem_iff_getElem?.1 hx
        exact HNO.out j x (by have := (List.getElem?_eq_some_iff.1 hj).1; have h5 : (wordsOf b.words ks).length = n5 := hl5; have h6 : j < (wordsOf b.words ks).length := this; omega) hj
      obtain ⟨m1, _, t1, hE2, hmay, hdl, hdo, y, hy, hyf, hyw⟩ := keeps HKE.out HKK.out HKU.out hhi' hno
      have hal1 := all_flags HKE.out HTM.out
      have hal2 := all_flags hE2 t1
      have hmd := (fl_done hE2 t1).2
      obtain ⟨c, hcd⟩ : ∃ c, c = flC b ⟨u', md, d, id, fl, ks, tx⟩ u flags words 1 := ⟨_, rfl⟩
      rw [← hcd] at t1 hE2 hmay hdl hdo hy hyw hal1 hal2 hmd
      obtain ⟨dd, hdd⟩ : ∃ dd, dd = flC c m1 u flags words 2 := ⟨_, rfl⟩
      rw [← hdd] at hdl hdo hy hyw hal2 hmd
      have HMD := Lib.hid hmd
      clear hmd
      clear hcd hdd hno HNO hl5 hn5 t1 m1
      obtain ⟨b0, b1, b2, b3, b4, b5, _⟩ := six_at HI7.out.blk
      have hall := all_any (n := n1) (cp := c1) HI7.out.ws HI7.out.ms hwc hmc z1 (Nat.le_refl _) HR7.out hc1 (flP_few HE.out)
      rw [hal1] at hall
      have HA := Lib.hid hall
      have HAL2 := Lib.hid hal2
      have HE2 := Lib.hid hE2
      have HMY := Lib.hid hmay
      have HDL := Lib.hid hdl
      have HDO := Lib.hid hdo
      have HY := Lib.hid hy
      have HYF := Lib.hid hyf
      have HYW := Lib.hid hyw
      clear hall hal1 hal2 hE2 hmay hdl hdo hy hyf hyw
      go_wp2_with fail
      refine HA.out.mono ?_
      rintro e w8 ⟨WA2, wn2, wc2, MA2, mn2, mc2, rfl, hx1, hx2, hlie, hb8⟩
      go_upto_region 15 with fail
      have HI8 := Lib.hid ((HI7.out.go hb8).alloc (.cells #[.string c.id, .int .i64 c.valid, .int .i64 c.next, .int .i64 c.high, .slice WA2 wn2 wc2, .slice MA2 mn2 mc2] 25))
      have HC1 := Lib.hid (Sb.new (w1 := w7) (c := c) (HI7.out.go hb8).bel hb8.size hx1 hx2 hlie)
      have HB8 := Lib.hid (show Below w7.heap.size w7 (w8.alloc (.cells #[.string c.id, .int .i64 c.valid, .int .i64 c.next, .int .i64 c.high, .slice WA2 wn2 wc2, .slice MA2 mn2 mc2] 25)) from hb8.alloc hb8.size _)
      obtain ⟨C1, hC1⟩ : ∃ C1, C1 = w8.heap.size := ⟨_, rfl⟩
      rw [← hC1] at HC1 ⊢
      clear hC1 hlie hb8 HA b0 b1 b2 b3 b4 b5
      generalize (World.alloc w8 _) = W8 at HI8 HC1 HB8 ⊢
      obtain ⟨e0, e1, e2, e3, e4, e5, _⟩ := six_at HC1.out.blk
      have hcz : c.id.size ≤ 140737488355328 := by
        obtain ⟨g, _⟩ := (mb_iff c).1 HMY.out
        have := (head_parts g).2.1
        omega
      have hfl := flags_any (u := u) (flags := flags) (how := 2) (n := n) (cp := cp) (HTAB.out.below HC1.out.bel) HC1.out.ws HC1.out.ms hx1 hx2 (Nat.le_refl _) (StrsAt.more (StrsAt.below HL.out HC1.out.bel (Nat.le_refl _)) HC1.out.bel.size) hcp (by omega) (.inl (by omega))
      rw [HE2.out] at hfl
      have HFL := Lib.hid hfl
      clear hfl
      go_wp2_with fail
      refine HFL.out.mono ?_
      rintro e w9 ⟨A9, n9, c9, rfl, hc9, hr9, hb9⟩
      have HI9 := Lib.hid (HI8.out.go hb9)
      have HC9 := Lib.hid (HC1.out.go hb9)
      have HR9 := Lib.hid hr9
      have HB9 := Lib.hid (HB8.out.trans (hb9.mono HB8.out.size))
      clear hb9 hr9 HFL HI8 HC1 HB8 e0 e1 e2 e3 e4 e5
      obtain ⟨e0, e1, e2, e3, e4, e5, _⟩ := six_at HC9.out.blk
      have hall := all_any (n := n9) (cp := c9) HC9.out.ws HC9.out.ms hx1 hx2 hcz (Nat.le_refl _) HR9.out hc9 (flP_few HMY.out)
      rw [HAL2.out] at hall
      have HA := Lib.hid hall
      clear hall
      go_wp2_with fail
      refine HA.out.mono ?_
      rintro e w10 ⟨WA3, wn3, wc3, MA3, mn3, mc3, rfl, hx3, hx4, hlie, hb10⟩
      go_upto_region 17 with fail
      have HI10 := Lib.hid ((HI9.out.go hb10).alloc (.cells #[.string dd.id, .int .i64 dd.valid, .int .i64 dd.next, .int .i64 dd.high, .slice WA3 wn3 wc3, .slice MA3 mn3 mc3] 25))
      have HD := Lib.hid (Sb.new (w1 := w9) (c := dd) (HC9.out.go hb10).bel hb10.size hx3 hx4 hlie)
      have HB10 := Lib.hid (show Below w7.heap.size w7 (w10.alloc (.cells #[.string dd.id, .int .i64 dd.valid, .int .i64 dd.next, .int .i64 dd.high, .slice WA3 wn3 wc3, .slice MA3 mn3 mc3] 25)) from (HB9.out.trans (hb10.mono HB9.out.size)).alloc (Nat.le_trans HB9.out.size hb10.size) _)
      obtain ⟨D, hD⟩ : ∃ D, D = w10.heap.size := ⟨_, rfl⟩
      rw [← hD] at HD ⊢
      clear hD hlie hb10 HA e0 e1 e2 e3 e4 e5 HI9 HC9 HB9
      generalize (World.alloc w10 _) = W10 at HI10 HD HB10 ⊢
      obtain ⟨b0, b1, b2, b3, b4, b5, _⟩ := six_at HI10.out.blk
      obtain ⟨e0, e1, e2, e3, e4, e5, _⟩ := six_at HD.out.blk
      obtain rfl : mn = mn3 := by
        have h1 := HI10.out.ms.len
        have h2 := HD.out.ms.len
        have h3 := HDL.out
        omega
      have hmnm := HI10.out.ms.max
      go_wp2_with fail
      go_loopw [132] (fun s132 wr => ∃ i : Nat, i ≤ mn ∧ s132 = .int .i64 i ∧ Hid (Below W10.heap.size W10 wr)) (fun s132 _ => mn - (intOf s132).toNat)
      case atStart => exact ⟨0, Nat.zero_le _, rfl, Below.refl _ _⟩
      case round =>
        obtain ⟨i, hi, rfl, HBr⟩ := hrel
        by_cases hlt : i < mn
        · obtain ⟨ax, xu, xmd, xd, xid, xfl, xks, xtx, XK, xkn, xkc, ex, _, ex1, x0, x1, x2, x3, x4, x5, x6, hxkc, hxks, _, _⟩ := MsgsAt.sp HI10.out.ms HBr.out (Nat.le_refl _) hlt
          injection ex with ex
          subst ex
          go_upto_region 22 with fail
          have HBw := Lib.hid (HBr.out.alloc HBr.out.size (.cells #[.int .i64 xu, .int .i64 xmd, .int .i64 xd, .string xid, .int .i64 xfl, .slice XK xkn xkc, .string xtx] 28))
          have HXb := Lib.hid (heap_alloc_new wr (.cells #[.int .i64 xu, .int .i64 xmd, .int .i64 xd, .string xid, .int .i64 xfl, .slice XK xkn xkc, .string xtx] 28))
          have hxk := IntsAt.more (IntsAt.below hxks ((Below.refl _ _).alloc (Nat.le_refl _) (.cells #[.int .i64 xu, .int .i64 xmd, .int .i64 xd, .string xid, .int .i64 xfl, .slice XK xkn xkc, .string xtx] 28)) HBr.out.size) (Nat.le_trans HBr.out.size (show wr.heap.size ≤ (wr.alloc (.cells #[.int .i64 xu, .int .i64 xmd, .int .i64 xd, .string xid, .int .i64 xfl, .slice XK xkn xkc, .string xtx] 28)).heap.size by simp))
          obtain ⟨X, hX⟩ : ∃ X, X = wr.heap.size := ⟨_, rfl⟩
          rw [← hX] at HXb ⊢
          clear hX HBr x0 x1 x2 x3 x4 x5 x6 hxks b0 b1 b2 b3 b4 b5 e0 e1 e2 e3 e4 e5
          generalize (World.alloc wr _) = W11 at HBw HXb hxk ⊢
          have HDw := Lib.hid (HD.out.go HBw.out)
          obtain ⟨e0, e1, e2, e3, e4, e5, _⟩ := six_at HDw.out.blk
          obtain ⟨ay, yu, ymd, yd, yid, yfl, yks, ytx, YK, ykn, ykc, ey, _, ey1, y0, y1, y2, y3, y4, y5, y6, hykc, hyks, _, _⟩ := MsgsAt.sp HD.out.ms HBw.out (Nat.le_refl _) hlt
          subst ey
          have q1 : (0 : Int) ≤ (i : Int) := by omega
          have q2 : (i : Int) < (mn : Int) := by omega
          go_upto_region 23 with fail
          have HBv := Lib.hid (HBw.out.alloc HBw.out.size (.cells #[.int .i64 yu, .int .i64 ymd, .int .i64 yd, .string yid, .int .i64 yfl, .slice YK ykn ykc, .string ytx] 28))
          have HXv := Lib.hid ((Below.heap_alloc W11 (.cells #[.int .i64 yu, .int .i64 ymd, .int .i64 yd, .string yid, .int .i64 yfl, .slice YK ykn ykc, .string ytx] 28) X (Array.getElem?_eq_some_iff.1 HXb.out).1).trans HXb.out)
          have HYv := Lib.hid (heap_alloc_new W11 (.cells #[.int .i64 yu, .int .i64 ymd, .int .i64 yd, .string yid, .int .i64 yfl, .slice YK ykn ykc, .string ytx] 28))
          have hxk2 := IntsAt.more (IntsAt.below hxk ((Below.refl _ _).alloc (Nat.le_refl _) (.cells #[.int .i64 yu, .int .i64 ymd, .int .i64 yd, .string yid, .int .i64 yfl, .slice YK ykn ykc, .string ytx] 28)) (Nat.le_refl _)) (show W11.heap.size ≤ (W11.alloc (.cells #[.int .i64 yu, .int .i64 ymd, .int .i64 yd, .string yid, .int .i64 yfl, .slice YK ykn ykc, .string ytx] 28)).heap.size by simp)
          have hyk2 := IntsAt.more (IntsAt.below hyks ((Below.refl _ _).alloc (Nat.le_refl _) (.cells #[.int .i64 yu, .int .i64 ymd, .int .i64 yd, .string yid, .int .i64 yfl, .slice YK ykn ykc, .string ytx] 28)) HBw.out.size) (Nat.le_trans HBw.out.size (show W11.heap.size ≤ (W11.alloc (.cells #[.int .i64 yu, .int .i64 ymd, .int .i64 yd, .string yid, .int .i64 yfl, .slice YK ykn ykc, .string ytx] 28)).heap.size by simp))
          obtain ⟨Y, hY⟩ : ∃ Y, Y = W11.heap.size := ⟨_, rfl⟩
          rw [← hY] at HYv ⊢
          clear hY HBw HXb HDw y0 y1 y2 y3 y4 y5 y6 hxk hyks e0 e1 e2 e3 e4 e5
          generalize (World.alloc W11 _) = V at HBv HXv HYv hxk2 hyk2 ⊢
          have HXK := Lib.hid hxk2
          have HYK := Lib.hid hyk2
          have hxl := hxk2.len
          have hyl := hyk2.len
          clear hxk2 hyk2
          have FX := Lib.hid (fun (v : World) (h : Below V.heap.size V v) => seven_at ((h.block X (Array.getElem?_eq_some_iff.1 HXv.out).1).trans HXv.out))
          have FY := Lib.hid (fun (v : World) (h : Below V.heap.size V v) => seven_at ((h.block Y (Array.getElem?_eq_some_iff.1 HYv.out).1).trans HYv.out))
          have hM7 := (Array.getElem?_eq_some_iff.1 HMB7.out).1
          have FM := Lib.hid (fun (v : World) (h : Below V.heap.size V v) => seven_at (((HB10.out.trans ((HBv.out.trans (h.mono HBv.out.size)).mono HB10.out.size)).block M hM7).trans HMB7.out))
          have FB := Lib.hid (fun (v : World) (h : Below V.heap.size V v) => HI10.out.go (HBv.out.trans (h.mono HBv.out.size)))
          have FD := Lib.hid (fun (v : World) (h : Below V.heap.size V v) => HD.out.go (HBv.out.trans (h.mono HBv.out.size)))
          obtain ⟨x0, x1, x2, x3, x4, x5, x6⟩ := FX.out V (Below.refl _ _)
          obtain ⟨y0, y1, y2, y3, y4, y5, y6⟩ := FY.out V (Below.refl _ _)
          by_cases hik : i = k
          case neg =>
            have hyx := HDO.out i _ ex1 hik
            rw [ey1] at hyx
            have hyx2 := Option.some.inj hyx
            injection hyx2 with z1 z2 z3 z4 z5 z6 z7
            subst z1 z2 z3 z4 z5 z6 z7
            have h1 : ((i : Int) != (k : Int)) = true := by simp; omega
            have h2 : ((i : Int) == (k : Int)) = false := by simp; omega
            have h2b : (i == k) = false := by simpa using hik
            have h2c : decide (i = k) = false := decide_eq_false hik
            have h2d : decide ((i : Int) = (k : Int)) = false := decide_eq_false (by omega)
            have h2e : ¬ ((i : Int) = (k : Int)) := by omega
            have kS := fun (v : World) (h : Below V.heap.size V v) => refSameMsg_cells (u := yu) (u' := yu) (md := ymd) (md' := ymd) (d := yd) (d' := yd) (id := yid) (id' := yid) (fl := yfl) (fl' := yfl) (tx := ytx) (tx' := ytx) (kc := xkc) (kc' := ykc) (IntsAt.below HXK.out h (Nat.le_refl _)) (IntsAt.below HYK.out h (Nat.le_refl _)) h.size h.size
            rw [show eqM (⟨yu, ymd, yd, yid, yfl, yks, ytx⟩ : Msg) ⟨yu, ymd, yd, yid, yfl, yks, ytx⟩ = true from decide_eq_true rfl] at kS
            have KS := Lib.hid kS
            have D0 := Lib.hid (show Below V.heap.size V V.drew from (Below.refl _ _).drew)
            have R0 := Lib.hid (Below.refl V.heap.size V)
            clear kS ex1 ey1 hyx hik
            refine wp_region_noPanic ?_
            refine wp_region_held_drew (S := fun wr => wr.cell? { block := X, off := 0 } = some (.int .i64 yu) ∧ wr.cell? { block := X, off := 1 } = some (.int .i64 ymd) ∧ wr.cell? { block := X, off := 2 } = some (.int .i64 yd) ∧ wr.cell? { block := X, off := 3 } = some (.string yid) ∧ wr.cell? { block := X, off := 4 } = some (.int .i64 yfl) ∧ wr.cell? { block := X, off := 5 } = some (.slice XK xkn xkc) ∧ wr.cell? { block := X, off := 6 } = some (.string ytx) ∧ wr.cell? { block := Y, off := 0 } = some (.int .i64 yu) ∧ wr.cell? { block := Y, off := 1 } = some (.int .i64 ymd) ∧ wr.cell? { block := Y, off := 2 } = some (.int .i64 yd) ∧ wr.cell? { block := Y, off := 3 } = some (.string yid) ∧ wr.cell? { block := Y, off := 4 } = some (.int .i64 yfl) ∧ wr.cell? { block := Y, off := 5 } = some (.slice YK ykn ykc) ∧ wr.cell? { block := Y, off := 6 } = some (.string ytx)) (by kernel_rfl) ?_ (fun hHeld => ?_)
            · exact ⟨(FX.out V.drew D0.out).1, (FX.out V.drew D0.out).2.1, (FX.out V.drew D0.out).2.2.1, (FX.out V.drew D0.out).2.2.2.1, (FX.out V.drew D0.out).2.2.2.2.1, (FX.out V.drew D0.out).2.2.2.2.2.1, (FX.out V.drew D0.out).2.2.2.2.2.2, (FY.out V.drew D0.out).1, (FY.out V.drew D0.out).2.1, (FY.out V.drew D0.out).2.2.1, (FY.out V.drew D0.out).2.2.2.1, (FY.out V.drew D0.out).2.2.2.2.1, (FY.out V.drew D0.out).2.2.2.2.2.1, (FY.out V.drew D0.out).2.2.2.2.2.2⟩
            refine wpAnyH_take (i := 0) (v := ?_) rfl (by kernel_rfl) (by kernel_rfl) (by kernel_rfl) (fun _ _ _ h => h) (Or.inl ⟨by rfl, ?_⟩) hHeld ?_
            rotate_left
            · intro wq hSq; (try dsimp only at hSq); go_simp; try with_reducible rfl
            try simp only [Act.put, List.setIfInBounds_toArray, List.set_cons_zero, List.set_cons_succ, List.getElem_toArray, List.getElem_cons_zero, List.getElem_cons_succ]
            refine wpAnyH_take (i := 1) (v := ?_) rfl (by kernel_rfl) (by kernel_rfl) (by kernel_rfl) (fun _ _ _ h => h) (Or.inl ⟨by rfl, ?_⟩) hHeld ?_
            rotate_left
            · intro wq hSq; (try dsimp only at hSq); go_simp; try with_reducible rfl
            try simp only [Act.put, List.setIfInBounds_toArray, List.set_cons_zero, List.set_cons_succ, List.getElem_toArray, List.getElem_cons_zero, List.getElem_cons_succ]
            refine wpAnyH_take (i := 2) (v := ?_) rfl (by kernel_rfl) (by kernel_rfl) (by kernel_rfl) (fun _ _ _ h => h) (Or.inl ⟨by rfl, ?_⟩) hHeld ?_
            rotate_left
            · intro wq hSq; (try dsimp only at hSq); go_simp; try with_reducible rfl
            try simp only [Act.put, List.setIfInBounds_toArray, List.set_cons_zero, List.set_cons_succ, List.getElem_toArray, List.getElem_cons_zero, List.getElem_cons_succ]
            refine wpAnyH_take (i := 3) (v := ?_) rfl (by kernel_rfl) (by kernel_rfl) (by kernel_rfl) (fun _ _ _ h => h) (Or.inl ⟨by rfl, ?_⟩) hHeld ?_
            rotate_left
            · intro wq hSq; (try dsimp only at hSq); go_simp; try with_reducible rfl
            try simp only [Act.put, List.setIfInBounds_toArray, List.set_cons_zero, List.set_cons_succ, List.getElem_toArray, List.getElem_cons_zero, List.getElem_cons_succ]
            refine wpAnyH_take (i := 4) (v := ?_) rfl (by kernel_rfl) (by kernel_rfl) (by kernel_rfl) (fun _ _ _ h => h) (Or.inl ⟨by rfl, ?_⟩) hHeld ?_
            rotate_left
            · intro wq hSq; (try dsimp only at hSq); go_simp; try with_reducible rfl
            try simp only [Act.put, List.setIfInBounds_toArray, List.set_cons_zero, List.set_cons_succ, List.getElem_toArray, List.getElem_cons_zero, List.getElem_cons_succ]
            refine wpAnyH_take (i := 5) (v := ?_) rfl (by kernel_rfl) (by kernel_rfl) (by kernel_rfl) (fun _ _ _ h => h) (Or.inl ⟨by rfl, ?_⟩) hHeld ?_
            rotate_left
            · intro wq hSq; (try dsimp only at hSq); go_simp; try with_reducible rfl
            try simp only [Act.put, List.setIfInBounds_toArray, List.set_cons_zero, List.set_cons_succ, List.getElem_toArray, List.getElem_cons_zero, List.getElem_cons_succ]
            refine wpAnyH_ready (rs := [6]) (by kernel_rfl) (by simp) ?_
            refine AllReadyH.cons rfl (fun K hK => ?_) AllReadyH.nil
            go_simp; try with_reducible rfl
            go_at_call 27
            refine (KS.out _ D0.out).mono ?_
            rintro e v1 ⟨rfl, hv1⟩
            have B1 := Lib.hid (show Below V.heap.size V v1 from D0.out.trans (hv1.mono D0.out.size))
            clear hv1
            dsimp only
            refine hK.out _ _ ?_ (fun hHeld => ?_)
            · exact ⟨(FX.out v1 B1.out).1, (FX.out v1 B1.out).2.1, (FX.out v1 B1.out).2.2.1, (FX.out v1 B1.out).2.2.2.1, (FX.out v1 B1.out).2.2.2.2.1, (FX.out v1 B1.out).2.2.2.2.2.1, (FX.out v1 B1.out).2.2.2.2.2.2, (FY.out v1 B1.out).1, (FY.out v1 B1.out).2.1, (FY.out v1 B1.out).2.2.1, (FY.out v1 B1.out).2.2.2.1, (FY.out v1 B1.out).2.2.2.2.1, (FY.out v1 B1.out).2.2.2.2.2.1, (FY.out v1 B1.out).2.2.2.2.2.2⟩
            clear hK K
            try simp only [Act.put, List.setIfInBounds_toArray, List.set_cons_zero, List.set_cons_succ, List.getElem_toArray, List.getElem_cons_zero, List.getElem_cons_succ]
            refine wpAnyH_take (i := 7) (v := ?_) rfl (by kernel_rfl) (by kernel_rfl) (by kernel_rfl) (fun _ _ _ h => h) (Or.inl ⟨by rfl, ?_⟩) hHeld ?_
            rotate_left
            · intro wq hSq; (try dsimp only at hSq); go_simp; try with_reducible rfl
            try simp only [Act.put, List.setIfInBounds_toArray, List.set_cons_zero, List.set_cons_succ, List.getElem_toArray, List.getElem_cons_zero, List.getElem_cons_succ]
            refine wpAnyH_take (i := 8) (v := ?_) rfl (by kernel_rfl) (by kernel_rfl) (by kernel_rfl) (fun _ _ _ h => h) (Or.inl ⟨by rfl, ?_⟩) hHeld ?_
            rotate_left
            · intro wq hSq; (try dsimp only at hSq); go_simp; try with_reducible rfl
            try simp only [Act.put, List.setIfInBounds_toArray, List.set_cons_zero, List.set_cons_succ, List.getElem_toArray, List.getElem_cons_zero, List.getElem_cons_succ]
            refine wpAnyH_take (i := 9) (v := ?_) rfl (by kernel_rfl) (by kernel_rfl) (by kernel_rfl) (fun _ _ _ h => h) (Or.inl ⟨by rfl, ?_⟩) hHeld ?_
            rotate_left
            · intro wq hSq; (try dsimp only at hSq); go_simp; try with_reducible rfl
            try simp only [Act.put, List.setIfInBounds_toArray, List.set_cons_zero, List.set_cons_succ, List.getElem_toArray, List.getElem_cons_zero, List.getElem_cons_succ]
            refine wpAnyH_take (i := 10) (v := ?_) rfl (by kernel_rfl) (by kernel_rfl) (by kernel_rfl) (fun _ _ _ h => h) (Or.inl ⟨by rfl, ?_⟩) hHeld ?_
            rotate_left
            · intro wq hSq; (try dsimp only at hSq); go_simp; try with_reducible rfl
            try simp only [Act.put, List.setIfInBounds_toArray, List.set_cons_zero, List.set_cons_succ, List.getElem_toArray, List.getElem_cons_zero, List.getElem_cons_succ]
            refine wpAnyH_take (i := 11) (v := ?_) rfl (by kernel_rfl) (by kernel_rfl) (by kernel_rfl) (fun _ _ _ h => h) (Or.inl ⟨by rfl, ?_⟩) hHeld ?_
            rotate_left
            · intro wq hSq; (try dsimp only at hSq); go_simp; try with_reducible rfl
            try simp only [Act.put, List.setIfInBounds_toArray, List.set_cons_zero, List.set_cons_succ, List.getElem_toArray, List.getElem_cons_zero, List.getElem_cons_succ]
            refine wpAnyH_take (i := 12) (v := ?_) rfl (by kernel_rfl) (by kernel_rfl) (by kernel_rfl) (fun _ _ _ h => h) (Or.inl ⟨by rfl, ?_⟩) hHeld ?_
            rotate_left
            · intro wq hSq; (try dsimp only at hSq); go_simp; try with_reducible rfl
            try simp only [Act.put, List.setIfInBounds_toArray, List.set_cons_zero, List.set_cons_succ, List.getElem_toArray, List.getElem_cons_zero, List.getElem_cons_succ]
            refine wpAnyH_take (i := 13) (v := ?_) rfl (by kernel_rfl) (by kernel_rfl) (by kernel_rfl) (fun _ _ _ h => h) (Or.inl ⟨by rfl, ?_⟩) hHeld ?_
            rotate_left
            · intro wq hSq; (try dsimp only at hSq); go_simp; try with_reducible rfl
            try simp only [Act.put, List.setIfInBounds_toArray, List.set_cons_zero, List.set_cons_succ, List.getElem_toArray, List.getElem_cons_zero, List.getElem_cons_succ]
            refine wpAnyH_take (i := 14) (v := undef) rfl (by kernel_rfl) (by kernel_rfl) (by kernel_rfl) (fun _ _ _ h => h) (Or.inr ⟨by rfl, rfl⟩) hHeld ?_
            try simp only [Act.put, List.setIfInBounds_toArray, List.set_cons_zero, List.set_cons_succ, List.getElem_toArray, List.getElem_cons_zero, List.getElem_cons_succ]
            refine wpAnyH_take (i := 15) (v := undef) rfl (by kernel_rfl) (by kernel_rfl) (by kernel_rfl) (fun _ _ _ h => h) (Or.inr ⟨by rfl, rfl⟩) hHeld ?_
            try simp only [Act.put, List.setIfInBounds_toArray, List.set_cons_zero, List.set_cons_succ, List.getElem_toArray, List.getElem_cons_zero, List.getElem_cons_succ]
            refine wpAnyH_take (i := 16) (v := undef) rfl (by kernel_rfl) (by kernel_rfl) (by kernel_rfl) (fun _ _ _ h => h) (Or.inr ⟨by rfl, rfl⟩) hHeld ?_
            try simp only [Act.put, List.setIfInBounds_toArray, List.set_cons_zero, List.set_cons_succ, List.getElem_toArray, List.getElem_cons_zero, List.getElem_cons_succ]
            refine wpAnyH_take (i := 17) (v := undef) rfl (by kernel_rfl) (by kernel_rfl) (by kernel_rfl) (fun _ _ _ h => h) (Or.inr ⟨by rfl, rfl⟩) hHeld ?_
            try simp only [Act.put, List.setIfInBounds_toArray, List.set_cons_zero, List.set_cons_succ, List.getElem_toArray, List.getElem_cons_zero, List.getElem_cons_succ]
            refine wpAnyH_take (i := 18) (v := undef) rfl (by kernel_rfl) (by kernel_rfl) (by kernel_rfl) (fun _ _ _ h => h) (Or.inr ⟨by rfl, rfl⟩) hHeld ?_
            try simp only [Act.put, List.setIfInBounds_toArray, List.set_cons_zero, List.set_cons_succ, List.getElem_toArray, List.getElem_cons_zero, List.getElem_cons_succ]
            refine wpAnyH_take (i := 19) (v := undef) rfl (by kernel_rfl) (by kernel_rfl) (by kernel_rfl) (fun _ _ _ h => h) (Or.inr ⟨by rfl, rfl⟩) hHeld ?_
            try simp only [Act.put, List.setIfInBounds_toArray, List.set_cons_zero, List.set_cons_succ, List.getElem_toArray, List.getElem_cons_zero, List.getElem_cons_succ]
            refine wpAnyH_take (i := 20) (v := undef) rfl (by kernel_rfl) (by kernel_rfl) (by kernel_rfl) (fun _ _ _ h => h) (Or.inr ⟨by rfl, rfl⟩) hHeld ?_
            try simp only [Act.put, List.setIfInBounds_toArray, List.set_cons_zero, List.set_cons_succ, List.getElem_toArray, List.getElem_cons_zero, List.getElem_cons_succ]
            refine wpAnyH_take (i := 21) (v := undef) rfl (by kernel_rfl) (by kernel_rfl) (by kernel_rfl) (fun _ _ _ h => h) (Or.inr ⟨by rfl, rfl⟩) hHeld ?_
            try simp only [Act.put, List.setIfInBounds_toArray, List.set_cons_zero, List.set_cons_succ, List.getElem_toArray, List.getElem_cons_zero, List.getElem_cons_succ]
            refine wpAnyH_take (i := 22) (v := undef) rfl (by kernel_rfl) (by kernel_rfl) (by kernel_rfl) (fun _ _ _ h => h) (Or.inr ⟨by rfl, rfl⟩) hHeld ?_
            try simp only [Act.put, List.setIfInBounds_toArray, List.set_cons_zero, List.set_cons_succ, List.getElem_toArray, List.getElem_cons_zero, List.getElem_cons_succ]
            refine wpAnyH_take (i := 23) (v := undef) rfl (by kernel_rfl) (by kernel_rfl) (by kernel_rfl) (fun _ _ _ h => h) (Or.inr ⟨by rfl, rfl⟩) hHeld ?_
            try simp only [Act.put, List.setIfInBounds_toArray, List.set_cons_zero, List.set_cons_succ, List.getElem_toArray, List.getElem_cons_zero, List.getElem_cons_succ]
            refine wpAnyH_take (i := 25) (v := undef) rfl (by kernel_rfl) (by kernel_rfl) (by kernel_rfl) (fun _ _ _ h => h) (Or.inr ⟨by rfl, rfl⟩) hHeld ?_
            try simp only [Act.put, List.setIfInBounds_toArray, List.set_cons_zero, List.set_cons_succ, List.getElem_toArray, List.getElem_cons_zero, List.getElem_cons_succ]
            refine wpAnyH_take (i := 26) (v := undef) rfl (by kernel_rfl) (by kernel_rfl) (by kernel_rfl) (fun _ _ _ h => h) (Or.inr ⟨by rfl, rfl⟩) hHeld ?_
            try simp only [Act.put, List.setIfInBounds_toArray, List.set_cons_zero, List.set_cons_succ, List.getElem_toArray, List.getElem_cons_zero, List.getElem_cons_succ]
            refine wpAnyH_ready (rs := [24]) (by kernel_rfl) (by simp) ?_
            refine AllReadyH.cons rfl (fun K hK => ?_) AllReadyH.nil
            go_simp; try with_reducible rfl
            refine hK.out _ _ ?_ (fun hHeld => ?_)
            · exact ⟨(FX.out v1 B1.out).1, (FX.out v1 B1.out).2.1, (FX.out v1 B1.out).2.2.1, (FX.out v1 B1.out).2.2.2.1, (FX.out v1 B1.out).2.2.2.2.1, (FX.out v1 B1.out).2.2.2.2.2.1, (FX.out v1 B1.out).2.2.2.2.2.2, (FY.out v1 B1.out).1, (FY.out v1 B1.out).2.1, (FY.out v1 B1.out).2.2.1, (FY.out v1 B1.out).2.2.2.1, (FY.out v1 B1.out).2.2.2.2.1, (FY.out v1 B1.out).2.2.2.2.2.1, (FY.out v1 B1.out).2.2.2.2.2.2⟩
            clear hK K
            try simp only [Act.put, List.setIfInBounds_toArray, List.set_cons_zero, List.set_cons_succ, List.getElem_toArray, List.getElem_cons_zero, List.getElem_cons_succ]
            refine wpAnyH_ready (rs := [27]) (by kernel_rfl) (by simp) ?_
            refine AllReadyH.cons rfl (fun K hK => ?_) AllReadyH.nil
            go_simp; try with_reducible rfl
            refine hK.out _ _ ?_ (fun hHeld => ?_)
            · exact ⟨(FX.out v1 B1.out).1, (FX.out v1 B1.out).2.1, (FX.out v1 B1.out).2.2.1, (FX.out v1 B1.out).2.2.2.1, (FX.out v1 B1.out).2.2.2.2.1, (FX.out v1 B1.out).2.2.2.2.2.1, (FX.out v1 B1.out).2.2.2.2.2.2, (FY.out v1 B1.out).1, (FY.out v1 B1.out).2.1, (FY.out v1 B1.out).2.2.1, (FY.out v1 B1.out).2.2.2.1, (FY.out v1 B1.out).2.2.2.2.1, (FY.out v1 B1.out).2.2.2.2.2.1, (FY.out v1 B1.out).2.2.2.2.2.2⟩
            clear hK K
            try simp only [Act.put, List.setIfInBounds_toArray, List.set_cons_zero, List.set_cons_succ, List.getElem_toArray, List.getElem_cons_zero, List.getElem_cons_succ]
            refine wpAnyH_ready (rs := [28]) (by kernel_rfl) (by simp) ?_
            refine AllReadyH.cons rfl (fun K hK => ?_) AllReadyH.nil
            go_simp; try with_reducible rfl
            refine hK.out _ _ ?_ (fun hHeld => ?_)
            · exact ⟨(FX.out v1 B1.out).1, (FX.out v1 B1.out).2.1, (FX.out v1 B1.out).2.2.1, (FX.out v1 B1.out).2.2.2.1, (FX.out v1 B1.out).2.2.2.2.1, (FX.out v1 B1.out).2.2.2.2.2.1, (FX.out v1 B1.out).2.2.2.2.2.2, (FY.out v1 B1.out).1, (FY.out v1 B1.out).2.1, (FY.out v1 B1.out).2.2.1, (FY.out v1 B1.out).2.2.2.1, (FY.out v1 B1.out).2.2.2.2.1, (FY.out v1 B1.out).2.2.2.2.2.1, (FY.out v1 B1.out).2.2.2.2.2.2⟩
            clear hK K
            try simp only [Act.put, List.setIfInBounds_toArray, List.set_cons_zero, List.set_cons_succ, List.getElem_toArray, List.getElem_cons_zero, List.getElem_cons_succ]
            refine wpAnyH_take (i := 29) (v := undef) rfl (by kernel_rfl) (by kernel_rfl) (by kernel_rfl) (fun _ _ _ h => h) (Or.inr ⟨by rfl, rfl⟩) hHeld ?_
            try simp only [Act.put, List.setIfInBounds_toArray, List.set_cons_zero, List.set_cons_succ, List.getElem_toArray, List.getElem_cons_zero, List.getElem_cons_succ]
            refine wpAnyH_take (i := 30) (v := undef) rfl (by kernel_rfl) (by kernel_rfl) (by kernel_rfl) (fun _ _ _ h => h) (Or.inr ⟨by rfl, rfl⟩) hHeld ?_
            try simp only [Act.put, List.setIfInBounds_toArray, List.set_cons_zero, List.set_cons_succ, List.getElem_toArray, List.getElem_cons_zero, List.getElem_cons_succ]
            refine wpAnyH_take (i := 31) (v := ?_) rfl (by kernel_rfl) (by kernel_rfl) (by kernel_rfl) (fun _ _ _ h => h) (Or.inl ⟨by rfl, ?_⟩) hHeld ?_
            rotate_left
            · intro wq hSq; (try dsimp only at hSq); go_simp; try with_reducible rfl
            try simp only [Act.put, List.setIfInBounds_toArray, List.set_cons_zero, List.set_cons_succ, List.getElem_toArray, List.getElem_cons_zero, List.getElem_cons_succ]
            refine wpAnyH_take (i := 32) (v := ?_) rfl (by kernel_rfl) (by kernel_rfl) (by kernel_rfl) (fun _ _ _ h => h) (Or.inl ⟨by rfl, ?_⟩) hHeld ?_
            rotate_left
            · intro wq hSq; (try dsimp only at hSq); go_simp; try with_reducible rfl
            try simp only [Act.put, List.setIfInBounds_toArray, List.set_cons_zero, List.set_cons_succ, List.getElem_toArray, List.getElem_cons_zero, List.getElem_cons_succ]
            refine wpAnyH_done (by kernel_rfl) ?_ _
            refine NoPanic.normal ?_
            all_goals
              go_wp2_with fail
              go_roundw
              case rel => exact ⟨i + 1, by omega, by go_num, Lib.hid (HBv.out.trans (B1.out.mono HBv.out.size))⟩
              case measure => simp [intOf]; omega
          subst hik
          have hxm := ex1.symm.trans HKK.out
          have hxm2 := Option.some.inj hxm
          injection hxm2 with z1 z2 z3 z4 z5 z6 z7
          subst z1 z2 z3 z4 z5 z6 z7
          have hym := Option.some.inj (HY.out.symm.trans ey1)
          have hyf := HYF.out
          have hyw := HYW.out
          rw [hym] at hyf hyw
          dsimp only at hyf hyw
          have h1 : ((i : Int) != (i : Int)) = false := by simp
          have h2 : ((i : Int) == (i : Int)) = true := by simp
          have hq : (yfl != bits .andNot .i64 xfl flags) = false := by
            rw [hyf]
            exact bne_self_eq_false _
          have hyl6 : ykn ≤ 60000 := by
            obtain ⟨_, gw, _, _, gm, _⟩ := (mb_iff dd).1 HMD.out
            have := keys_short (mm_parts (gm _ (List.mem_of_getElem? ey1)).1).2.2.2.2.2.1
            have h5 : yks.length ≤ dd.words.length := this
            omega
          have k1 := fun (v : World) (h : Below V.heap.size V v) => refWords_any (bid := dd.id) (id := yid) (tx := ytx) (bv := dd.valid) (bn := dd.next) (bh := dd.high) (u := yu) (md := ymd) (d := yd) (fl := yfl) (MA := some ay) (wc := wc3) (mn := mn) (mc := mc3) (kc := ykc) (FD.out v h).ws (IntsAt.below HYK.out h (Nat.le_refl _)) (Nat.le_refl _) h.size hyl6
          have k2 := fun (v : World) (h : Below V.heap.size V v) => refWords_any (bid := b.id) (id := xid) (tx := xtx) (bv := b.valid) (bn := b.next) (bh := b.high) (u := xu) (md := xmd) (d := xd) (fl := xfl) (MA := some ad) (wc := wc_) (mn := mn) (mc := mc) (kc := kc) (FB.out v h).ws (IntsAt.below hks7.out (HB10.out.trans ((HBv.out.trans (h.mono HBv.out.size)).mono HB10.out.size)) (Nat.le_refl _)) (Nat.le_refl _) (HB10.out.trans ((HBv.out.trans (h.mono HBv.out.size)).mono HB10.out.size)).size hkl
          have K1 := Lib.hid k1
          have K2 := Lib.hid k2
          have HW := Lib.hid hyw
          have D0 := Lib.hid (show Below V.heap.size V V.drew from (Below.refl _ _).drew)
          have R0 := Lib.hid (Below.refl V.heap.size V)
          clear k1 k2 ex1 ey1 hxm hym hyf hyw
          obtain ⟨m0, m1, m2, m3, m4, m5, m6⟩ := FM.out V (Below.refl _ _)
          obtain ⟨e0, e1, e2, e3, e4, e5, _⟩ := six_at (FD.out V (Below.refl _ _)).blk
          obtain ⟨b0, b1, b2, b3, b4, b5, _⟩ := six_at (FB.out V (Below.refl _ _)).blk
          refine wp_region_noPanic ?_
          refine wp_region_held_drew (S := fun wr => wr.cell? { block := Y, off := 0 } = some (.int .i64 yu) ∧ wr.cell? { block := Y, off := 1 } = some (.int .i64 ymd) ∧ wr.cell? { block := Y, off := 2 } = some (.int .i64 yd) ∧ wr.cell? { block := Y, off := 3 } = some (.string yid) ∧ wr.cell? { block := Y, off := 4 } = some (.int .i64 yfl) ∧ wr.cell? { block := Y, off := 5 } = some (.slice YK ykn ykc) ∧ wr.cell? { block := Y, off := 6 } = some (.string ytx) ∧ wr.cell? { block := M, off := 0 } = some (.int .i64 xu) ∧ wr.cell? { block := M, off := 1 } = some (.int .i64 xmd) ∧ wr.cell? { block := M, off := 2 } = some (.int .i64 xd) ∧ wr.cell? { block := M, off := 3 } = some (.string xid) ∧ wr.cell? { block := M, off := 4 } = some (.int .i64 xfl) ∧ wr.cell? { block := M, off := 5 } = some (.slice K kn kc) ∧ wr.cell? { block := M, off := 6 } = some (.string xtx) ∧ wr.cell? { block := D, off := 0 } = some (.string dd.id) ∧ wr.cell? { block := D, off := 1 } = some (.int .i64 dd.valid) ∧ wr.cell? { block := D, off := 2 } = some (.int .i64 dd.next) ∧ wr.cell? { block := D, off := 3 } = some (.int .i64 dd.high) ∧ wr.cell? { block := D, off := 4 } = some (.slice WA3 wn3 wc3) ∧ wr.cell? { block := D, off := 5 } = some (.slice (some ay) mn mc3) ∧ wr.cell? { block := w.heap.size, off := 0 } = some (.string b.id) ∧ wr.cell? { block := w.heap.size, off := 1 } = some (.int .i64 b.valid) ∧ wr.cell? { block := w.heap.size, off := 2 } = some (.int .i64 b.next) ∧ wr.cell? { block := w.heap.size, off := 3 } = some (.int .i64 b.high) ∧ wr.cell? { block := w.heap.size, off := 4 } = some (.slice WA wn wc_) ∧ wr.cell? { block := w.heap.size, off := 5 } = some (.slice (some ad) mn mc)) (by kernel_rfl) ?_ (fun hHeld => ?_)
          · exact ⟨(FY.out V.drew D0.out).1, (FY.out V.drew D0.out).2.1, (FY.out V.drew D0.out).2.2.1, (FY.out V.drew D0.out).2.2.2.1, (FY.out V.drew D0.out).2.2.2.2.1, (FY.out V.drew D0.out).2.2.2.2.2.1, (FY.out V.drew D0.out).2.2.2.2.2.2, (FM.out V.drew D0.out).1, (FM.out V.drew D0.out).2.1, (FM.out V.drew D0.out).2.2.1, (FM.out V.drew D0.out).2.2.2.1, (FM.out V.drew D0.out).2.2.2.2.1, (FM.out V.drew D0.out).2.2.2.2.2.1, (FM.out V.drew D0.out).2.2.2.2.2.2, (six_at (FD.out V.drew D0.out).blk).1, (six_at (FD.out V.drew D0.out).blk).2.1, (six_at (FD.out V.drew D0.out).blk).2.2.1, (six_at (FD.out V.drew D0.out).blk).2.2.2.1, (six_at (FD.out V.drew D0.out).blk).2.2.2.2.1, (six_at (FD.out V.drew D0.out).blk).2.2.2.2.2.1, (six_at (FB.out V.drew D0.out).blk).1, (six_at (FB.out V.drew D0.out).blk).2.1, (six_at (FB.out V.drew D0.out).blk).2.2.1, (six_at (FB.out V.drew D0.out).blk).2.2.2.1, (six_at (FB.out V.drew D0.out).blk).2.2.2.2.1, (six_at (FB.out V.drew D0.out).blk).2.2.2.2.2.1⟩
          refine wpAnyH_take (i := 0) (v := ?_) rfl (by kernel_rfl) (by kernel_rfl) (by kernel_rfl) (fun _ _ _ h => h) (Or.inl ⟨by rfl, ?_⟩) hHeld ?_
          rotate_left
          · intro wq hSq; (try dsimp only at hSq); go_simp; try with_reducible rfl
          try simp only [Act.put, List.setIfInBounds_toArray, List.set_cons_zero, List.set_cons_succ, List.getElem_toArray, List.getElem_cons_zero, List.getElem_cons_succ]
          refine wpAnyH_take (i := 1) (v := ?_) rfl (by kernel_rfl) (by kernel_rfl) (by kernel_rfl) (fun _ _ _ h => h) (Or.inl ⟨by rfl, ?_⟩) hHeld ?_
          rotate_left
          · intro wq hSq; (try dsimp only at hSq); go_simp; try with_reducible rfl
          try simp only [Act.put, List.setIfInBounds_toArray, List.set_cons_zero, List.set_cons_succ, List.getElem_toArray, List.getElem_cons_zero, List.getElem_cons_succ]
          refine wpAnyH_take (i := 2) (v := ?_) rfl (by kernel_rfl) (by kernel_rfl) (by kernel_rfl) (fun _ _ _ h => h) (Or.inl ⟨by rfl, ?_⟩) hHeld ?_
          rotate_left
          · intro wq hSq; (try dsimp only at hSq); go_simp; try with_reducible rfl
          try simp only [Act.put, List.setIfInBounds_toArray, List.set_cons_zero, List.set_cons_succ, List.getElem_toArray, List.getElem_cons_zero, List.getElem_cons_succ]
          refine wpAnyH_take (i := 3) (v := ?_) rfl (by kernel_rfl) (by kernel_rfl) (by kernel_rfl) (fun _ _ _ h => h) (Or.inl ⟨by rfl, ?_⟩) hHeld ?_
          rotate_left
          · intro wq hSq; (try dsimp only at hSq); go_simp; try with_reducible rfl
          try simp only [Act.put, List.setIfInBounds_toArray, List.set_cons_zero, List.set_cons_succ, List.getElem_toArray, List.getElem_cons_zero, List.getElem_cons_succ]
          refine wpAnyH_take (i := 4) (v := undef) rfl (by kernel_rfl) (by kernel_rfl) (by kernel_rfl) (fun _ _ _ h => h) (Or.inr ⟨by rfl, rfl⟩) hHeld ?_
          try simp only [Act.put, List.setIfInBounds_toArray, List.set_cons_zero, List.set_cons_succ, List.getElem_toArray, List.getElem_cons_zero, List.getElem_cons_succ]
          refine wpAnyH_take (i := 5) (v := undef) rfl (by kernel_rfl) (by kernel_rfl) (by kernel_rfl) (fun _ _ _ h => h) (Or.inr ⟨by rfl, rfl⟩) hHeld ?_
          try simp only [Act.put, List.setIfInBounds_toArray, List.set_cons_zero, List.set_cons_succ, List.getElem_toArray, List.getElem_cons_zero, List.getElem_cons_succ]
          refine wpAnyH_ready (rs := [6]) (by kernel_rfl) (by simp) ?_
          refine AllReadyH.cons rfl (fun K hK => ?_) AllReadyH.nil
          go_simp; try with_reducible rfl
          refine hK.out _ _ ?_ (fun hHeld => ?_)
          · exact ⟨(FY.out V.drew D0.out).1, (FY.out V.drew D0.out).2.1, (FY.out V.drew D0.out).2.2.1, (FY.out V.drew D0.out).2.2.2.1, (FY.out V.drew D0.out).2.2.2.2.1, (FY.out V.drew D0.out).2.2.2.2.2.1, (FY.out V.drew D0.out).2.2.2.2.2.2, (FM.out V.drew D0.out).1, (FM.out V.drew D0.out).2.1, (FM.out V.drew D0.out).2.2.1, (FM.out V.drew D0.out).2.2.2.1, (FM.out V.drew D0.out).2.2.2.2.1, (FM.out V.drew D0.out).2.2.2.2.2.1, (FM.out V.drew D0.out).2.2.2.2.2.2, (six_at (FD.out V.drew D0.out).blk).1, (six_at (FD.out V.drew D0.out).blk).2.1, (six_at (FD.out V.drew D0.out).blk).2.2.1, (six_at (FD.out V.drew D0.out).blk).2.2.2.1, (six_at (FD.out V.drew D0.out).blk).2.2.2.2.1, (six_at (FD.out V.drew D0.out).blk).2.2.2.2.2.1, (six_at (FB.out V.drew D0.out).blk).1, (six_at (FB.out V.drew D0.out).blk).2.1, (six_at (FB.out V.drew D0.out).blk).2.2.1, (six_at (FB.out V.drew D0.out).blk).2.2.2.1, (six_at (FB.out V.drew D0.out).blk).2.2.2.2.1, (six_at (FB.out V.drew D0.out).blk).2.2.2.2.2.1⟩
          clear hK K
          try simp only [Act.put, List.setIfInBounds_toArray, List.set_cons_zero, List.set_cons_succ, List.getElem_toArray, List.getElem_cons_zero, List.getElem_cons_succ]
          refine wpAnyH_take (i := 7) (v := undef) rfl (by kernel_rfl) (by kernel_rfl) (by kernel_rfl) (fun _ _ _ h => h) (Or.inr ⟨by rfl, rfl⟩) hHeld ?_
          try simp only [Act.put, List.setIfInBounds_toArray, List.set_cons_zero, List.set_cons_succ, List.getElem_toArray, List.getElem_cons_zero, List.getElem_cons_succ]
          refine wpAnyH_take (i := 8) (v := ?_) rfl (by kernel_rfl) (by kernel_rfl) (by kernel_rfl) (fun _ _ _ h => h) (Or.inl ⟨by rfl, ?_⟩) hHeld ?_
          rotate_left
          · intro wq hSq; (try dsimp only at hSq); go_simp; try with_reducible rfl
          try simp only [Act.put, List.setIfInBounds_toArray, List.set_cons_zero, List.set_cons_succ, List.getElem_toArray, List.getElem_cons_zero, List.getElem_cons_succ]
          refine wpAnyH_take (i := 9) (v := ?_) rfl (by kernel_rfl) (by kernel_rfl) (by kernel_rfl) (fun _ _ _ h => h) (Or.inl ⟨by rfl, ?_⟩) hHeld ?_
          rotate_left
          · intro wq hSq; (try dsimp only at hSq); go_simp; try with_reducible rfl
          try simp only [Act.put, List.setIfInBounds_toArray, List.set_cons_zero, List.set_cons_succ, List.getElem_toArray, List.getElem_cons_zero, List.getElem_cons_succ]
          refine wpAnyH_take (i := 10) (v := ?_) rfl (by kernel_rfl) (by kernel_rfl) (by kernel_rfl) (fun _ _ _ h => h) (Or.inl ⟨by rfl, ?_⟩) hHeld ?_
          rotate_left
          · intro wq hSq; (try dsimp only at hSq); go_simp; try with_reducible rfl
          try simp only [Act.put, List.setIfInBounds_toArray, List.set_cons_zero, List.set_cons_succ, List.getElem_toArray, List.getElem_cons_zero, List.getElem_cons_succ]
          refine wpAnyH_take (i := 11) (v := ?_) rfl (by kernel_rfl) (by kernel_rfl) (by kernel_rfl) (fun _ _ _ h => h) (Or.inl ⟨by rfl, ?_⟩) hHeld ?_
          rotate_left
          · intro wq hSq; (try dsimp only at hSq); go_simp; try with_reducible rfl
          try simp only [Act.put, List.setIfInBounds_toArray, List.set_cons_zero, List.set_cons_succ, List.getElem_toArray, List.getElem_cons_zero, List.getElem_cons_succ]
          refine wpAnyH_take (i := 12) (v := ?_) rfl (by kernel_rfl) (by kernel_rfl) (by kernel_rfl) (fun _ _ _ h => h) (Or.inl ⟨by rfl, ?_⟩) hHeld ?_
          rotate_left
          · intro wq hSq; (try dsimp only at hSq); go_simp; try with_reducible rfl
          try simp only [Act.put, List.setIfInBounds_toArray, List.set_cons_zero, List.set_cons_succ, List.getElem_toArray, List.getElem_cons_zero, List.getElem_cons_succ]
          refine wpAnyH_take (i := 13) (v := ?_) rfl (by kernel_rfl) (by kernel_rfl) (by kernel_rfl) (fun _ _ _ h => h) (Or.inl ⟨by rfl, ?_⟩) hHeld ?_
          rotate_left
          · intro wq hSq; (try dsimp only at hSq); go_simp; try with_reducible rfl
          try simp only [Act.put, List.setIfInBounds_toArray, List.set_cons_zero, List.set_cons_succ, List.getElem_toArray, List.getElem_cons_zero, List.getElem_cons_succ]
          refine wpAnyH_take (i := 14) (v := ?_) rfl (by kernel_rfl) (by kernel_rfl) (by kernel_rfl) (fun _ _ _ h => h) (Or.inl ⟨by rfl, ?_⟩) hHeld ?_
          rotate_left
          · intro wq hSq; (try dsimp only at hSq); go_simp; try with_reducible rfl
          try simp only [Act.put, List.setIfInBounds_toArray, List.set_cons_zero, List.set_cons_succ, List.getElem_toArray, List.getElem_cons_zero, List.getElem_cons_succ]
          refine wpAnyH_take (i := 15) (v := ?_) rfl (by kernel_rfl) (by kernel_rfl) (by kernel_rfl) (fun _ _ _ h => h) (Or.inl ⟨by rfl, ?_⟩) hHeld ?_
          rotate_left
          · intro wq hSq; (try dsimp only at hSq); go_simp; try with_reducible rfl
          try simp only [Act.put, List.setIfInBounds_toArray, List.set_cons_zero, List.set_cons_succ, List.getElem_toArray, List.getElem_cons_zero, List.getElem_cons_succ]
          refine wpAnyH_take (i := 16) (v := ?_) rfl (by kernel_rfl) (by kernel_rfl) (by kernel_rfl) (fun _ _ _ h => h) (Or.inl ⟨by rfl, ?_⟩) hHeld ?_
          rotate_left
          · intro wq hSq; (try dsimp only at hSq); go_simp; try with_reducible rfl
          try simp only [Act.put, List.setIfInBounds_toArray, List.set_cons_zero, List.set_cons_succ, List.getElem_toArray, List.getElem_cons_zero, List.getElem_cons_succ]
          refine wpAnyH_take (i := 17) (v := ?_) rfl (by kernel_rfl) (by kernel_rfl) (by kernel_rfl) (fun _ _ _ h => h) (Or.inl ⟨by rfl, ?_⟩) hHeld ?_
          rotate_left
          · intro wq hSq; (try dsimp only at hSq); go_simp; try with_reducible rfl
          try simp only [Act.put, List.setIfInBounds_toArray, List.set_cons_zero, List.set_cons_succ, List.getElem_toArray, List.getElem_cons_zero, List.getElem_cons_succ]
          refine wpAnyH_take (i := 18) (v := ?_) rfl (by kernel_rfl) (by kernel_rfl) (by kernel_rfl) (fun _ _ _ h => h) (Or.inl ⟨by rfl, ?_⟩) hHeld ?_
          rotate_left
          · intro wq hSq; (try dsimp only at hSq); go_simp; try with_reducible rfl
          try simp only [Act.put, List.setIfInBounds_toArray, List.set_cons_zero, List.set_cons_succ, List.getElem_toArray, List.getElem_cons_zero, List.getElem_cons_succ]
          refine wpAnyH_take (i := 19) (v := ?_) rfl (by kernel_rfl) (by kernel_rfl) (by kernel_rfl) (fun _ _ _ h => h) (Or.inl ⟨by rfl, ?_⟩) hHeld ?_
          rotate_left
          · intro wq hSq; (try dsimp only at hSq); go_simp; try with_reducible rfl
          try simp only [Act.put, List.setIfInBounds_toArray, List.set_cons_zero, List.set_cons_succ, List.getElem_toArray, List.getElem_cons_zero, List.getElem_cons_succ]
          refine wpAnyH_take (i := 20) (v := ?_) rfl (by kernel_rfl) (by kernel_rfl) (by kernel_rfl) (fun _ _ _ h => h) (Or.inl ⟨by rfl, ?_⟩) hHeld ?_
          rotate_left
          · intro wq hSq; (try dsimp only at hSq); go_simp; try with_reducible rfl
          try simp only [Act.put, List.setIfInBounds_toArray, List.set_cons_zero, List.set_cons_succ, List.getElem_toArray, List.getElem_cons_zero, List.getElem_cons_succ]
          refine wpAnyH_take (i := 21) (v := ?_) rfl (by kernel_rfl) (by kernel_rfl) (by kernel_rfl) (fun _ _ _ h => h) (Or.inl ⟨by rfl, ?_⟩) hHeld ?_
          rotate_left
          · intro wq hSq; (try dsimp only at hSq); go_simp; try with_reducible rfl
          try simp only [Act.put, List.setIfInBounds_toArray, List.set_cons_zero, List.set_cons_succ, List.getElem_toArray, List.getElem_cons_zero, List.getElem_cons_succ]
          refine wpAnyH_take (i := 22) (v := ?_) rfl (by kernel_rfl) (by kernel_rfl) (by kernel_rfl) (fun _ _ _ h => h) (Or.inl ⟨by rfl, ?_⟩) hHeld ?_
          rotate_left
          · intro wq hSq; (try dsimp only at hSq); go_simp; try with_reducible rfl
          try simp only [Act.put, List.setIfInBounds_toArray, List.set_cons_zero, List.set_cons_succ, List.getElem_toArray, List.getElem_cons_zero, List.getElem_cons_succ]
          refine wpAnyH_take (i := 23) (v := ?_) rfl (by kernel_rfl) (by kernel_rfl) (by kernel_rfl) (fun _ _ _ h => h) (Or.inl ⟨by rfl, ?_⟩) hHeld ?_
          rotate_left
          · intro wq hSq; (try dsimp only at hSq); go_simp; try with_reducible rfl
          try simp only [Act.put, List.setIfInBounds_toArray, List.set_cons_zero, List.set_cons_succ, List.getElem_toArray, List.getElem_cons_zero, List.getElem_cons_succ]
          refine wpAnyH_take (i := 25) (v := ?_) rfl (by kernel_rfl) (by kernel_rfl) (by kernel_rfl) (fun _ _ _ h => h) (Or.inl ⟨by rfl, ?_⟩) hHeld ?_
          rotate_left
          · intro wq hSq; (try dsimp only at hSq); go_simp; try with_reducible rfl
          try simp only [Act.put, List.setIfInBounds_toArray, List.set_cons_zero, List.set_cons_succ, List.getElem_toArray, List.getElem_cons_zero, List.getElem_cons_succ]
          refine wpAnyH_take (i := 26) (v := ?_) rfl (by kernel_rfl) (by kernel_rfl) (by kernel_rfl) (fun _ _ _ h => h) (Or.inl ⟨by rfl, ?_⟩) hHeld ?_
          rotate_left
          · intro wq hSq; (try dsimp only at hSq); go_simp; try with_reducible rfl
          try simp only [Act.put, List.setIfInBounds_toArray, List.set_cons_zero, List.set_cons_succ, List.getElem_toArray, List.getElem_cons_zero, List.getElem_cons_succ]
          refine wpAnyH_ready (rs := [24]) (by kernel_rfl) (by simp) ?_
          refine AllReadyH.cons rfl (fun K hK => ?_) AllReadyH.nil
          go_simp; try with_reducible rfl
          go_at_call 25
          refine (K1.out _ D0.out).mono ?_
          rintro e v1 ⟨Aa, na, ca, rfl, _, hsa, hv1⟩
          have B1 := Lib.hid (show Below V.heap.size V v1 from D0.out.trans (hv1.mono D0.out.size))
          have HSA := Lib.hid hsa
          clear hsa hv1
          dsimp only
          refine hK.out _ _ ?_ (fun hHeld => ?_)
          · exact ⟨(FY.out v1 B1.out).1, (FY.out v1 B1.out).2.1, (FY.out v1 B1.out).2.2.1, (FY.out v1 B1.out).2.2.2.1, (FY.out v1 B1.out).2.2.2.2.1, (FY.out v1 B1.out).2.2.2.2.2.1, (FY.out v1 B1.out).2.2.2.2.2.2, (FM.out v1 B1.out).1, (FM.out v1 B1.out).2.1, (FM.out v1 B1.out).2.2.1, (FM.out v1 B1.out).2.2.2.1, (FM.out v1 B1.out).2.2.2.2.1, (FM.out v1 B1.out).2.2.2.2.2.1, (FM.out v1 B1.out).2.2.2.2.2.2, (six_at (FD.out v1 B1.out).blk).1, (six_at (FD.out v1 B1.out).blk).2.1, (six_at (FD.out v1 B1.out).blk).2.2.1, (six_at (FD.out v1 B1.out).blk).2.2.2.1, (six_at (FD.out v1 B1.out).blk).2.2.2.2.1, (six_at (FD.out v1 B1.out).blk).2.2.2.2.2.1, (six_at (FB.out v1 B1.out).blk).1, (six_at (FB.out v1 B1.out).blk).2.1, (six_at (FB.out v1 B1.out).blk).2.2.1, (six_at (FB.out v1 B1.out).blk).2.2.2.1, (six_at (FB.out v1 B1.out).blk).2.2.2.2.1, (six_at (FB.out v1 B1.out).blk).2.2.2.2.2.1⟩
          clear hK K
          try simp only [Act.put, List.setIfInBounds_toArray, List.set_cons_zero, List.set_cons_succ, List.getElem_toArray, List.getElem_cons_zero, List.getElem_cons_succ]
          refine wpAnyH_ready (rs := [27]) (by kernel_rfl) (by simp) ?_
          refine AllReadyH.cons rfl (fun K hK => ?_) AllReadyH.nil
          go_simp; try with_reducible rfl
          go_at_call 25
          refine (K2.out _ B1.out).mono ?_
          rintro e v2 ⟨Ab, nb, cb, rfl, _, hsb, hv2⟩
          have B2 := Lib.hid (B1.out.trans (hv2.mono B1.out.size))
          have K3 := Lib.hid (sameTexts_any (cp := ca) (cq := cb) (StrsAt.below HSA.out hv2 (Nat.le_refl _)) hsb)
          clear hsb hv2
          dsimp only
          refine hK.out _ _ ?_ (fun hHeld => ?_)
          · exact ⟨(FY.out v2 B2.out).1, (FY.out v2 B2.out).2.1, (FY.out v2 B2.out).2.2.1, (FY.out v2 B2.out).2.2.2.1, (FY.out v2 B2.out).2.2.2.2.1, (FY.out v2 B2.out).2.2.2.2.2.1, (FY.out v2 B2.out).2.2.2.2.2.2, (FM.out v2 B2.out).1, (FM.out v2 B2.out).2.1, (FM.out v2 B2.out).2.2.1, (FM.out v2 B2.out).2.2.2.1, (FM.out v2 B2.out).2.2.2.2.1, (FM.out v2 B2.out).2.2.2.2.2.1, (FM.out v2 B2.out).2.2.2.2.2.2, (six_at (FD.out v2 B2.out).blk).1, (six_at (FD.out v2 B2.out).blk).2.1, (six_at (FD.out v2 B2.out).blk).2.2.1, (six_at (FD.out v2 B2.out).blk).2.2.2.1, (six_at (FD.out v2 B2.out).blk).2.2.2.2.1, (six_at (FD.out v2 B2.out).blk).2.2.2.2.2.1, (six_at (FB.out v2 B2.out).blk).1, (six_at (FB.out v2 B2.out).blk).2.1, (six_at (FB.out v2 B2.out).blk).2.2.1, (six_at (FB.out v2 B2.out).blk).2.2.2.1, (six_at (FB.out v2 B2.out).blk).2.2.2.2.1, (six_at (FB.out v2 B2.out).blk).2.2.2.2.2.1⟩
          clear hK K
          try simp only [Act.put, List.setIfInBounds_toArray, List.set_cons_zero, List.set_cons_succ, List.getElem_toArray, List.getElem_cons_zero, List.getElem_cons_succ]
          refine wpAnyH_ready (rs := [28]) (by kernel_rfl) (by simp) ?_
          refine AllReadyH.cons rfl (fun K hK => ?_) AllReadyH.nil
          go_simp; try with_reducible rfl
          go_at_call 28
          refine (show Calls Tryd.prog 28 _ v2 (fun e w' => e = .returned (.bool true) ∧ Drawn v2 w') by have := K3.out; rwa [decide_eq_true HW.out] at this).mono ?_
          rintro e v3 ⟨rfl, hv3⟩
          have B3 := Lib.hid (B2.out.trans ((hv3.below v2.heap.size).mono B2.out.size))
          clear hv3
          dsimp only
          refine hK.out _ _ ?_ (fun hHeld => ?_)
          · exact ⟨(FY.out v3 B3.out).1, (FY.out v3 B3.out).2.1, (FY.out v3 B3.out).2.2.1, (FY.out v3 B3.out).2.2.2.1, (FY.out v3 B3.out).2.2.2.2.1, (FY.out v3 B3.out).2.2.2.2.2.1, (FY.out v3 B3.out).2.2.2.2.2.2, (FM.out v3 B3.out).1, (FM.out v3 B3.out).2.1, (FM.out v3 B3.out).2.2.1, (FM.out v3 B3.out).2.2.2.1, (FM.out v3 B3.out).2.2.2.2.1, (FM.out v3 B3.out).2.2.2.2.2.1, (FM.out v3 B3.out).2.2.2.2.2.2, (six_at (FD.out v3 B3.out).blk).1, (six_at (FD.out v3 B3.out).blk).2.1, (six_at (FD.out v3 B3.out).blk).2.2.1, (six_at (FD.out v3 B3.out).blk).2.2.2.1, (six_at (FD.out v3 B3.out).blk).2.2.2.2.1, (six_at (FD.out v3 B3.out).blk).2.2.2.2.2.1, (six_at (FB.out v3 B3.out).blk).1, (six_at (FB.out v3 B3.out).blk).2.1, (six_at (FB.out v3 B3.out).blk).2.2.1, (six_at (FB.out v3 B3.out).blk).2.2.2.1, (six_at (FB.out v3 B3.out).blk).2.2.2.2.1, (six_at (FB.out v3 B3.out).blk).2.2.2.2.2.1⟩
          clear hK K
          try simp only [Act.put, List.setIfInBounds_toArray, List.set_cons_zero, List.set_cons_succ, List.getElem_toArray, List.getElem_cons_zero, List.getElem_cons_succ]
          refine wpAnyH_take (i := 29) (v := ?_) rfl (by kernel_rfl) (by kernel_rfl) (by kernel_rfl) (fun _ _ _ h => h) (Or.inl ⟨by rfl, ?_⟩) hHeld ?_
          rotate_left
          · intro wq hSq; (try dsimp only at hSq); go_simp; try with_reducible rfl
          try simp only [Act.put, List.setIfInBounds_toArray, List.set_cons_zero, List.set_cons_succ, List.getElem_toArray, List.getElem_cons_zero, List.getElem_cons_succ]
          refine wpAnyH_take (i := 30) (v := ?_) rfl (by kernel_rfl) (by kernel_rfl) (by kernel_rfl) (fun _ _ _ h => h) (Or.inl ⟨by rfl, ?_⟩) hHeld ?_
          rotate_left
          · intro wq hSq; (try dsimp only at hSq); go_simp; try with_reducible rfl
          try simp only [Act.put, List.setIfInBounds_toArray, List.set_cons_zero, List.set_cons_succ, List.getElem_toArray, List.getElem_cons_zero, List.getElem_cons_succ]
          refine wpAnyH_take (i := 31) (v := ?_) rfl (by kernel_rfl) (by kernel_rfl) (by kernel_rfl) (fun _ _ _ h => h) (Or.inl ⟨by rfl, ?_⟩) hHeld ?_
          rotate_left
          · intro wq hSq; (try dsimp only at hSq); go_simp; try with_reducible rfl
          try simp only [Act.put, List.setIfInBounds_toArray, List.set_cons_zero, List.set_cons_succ, List.getElem_toArray, List.getElem_cons_zero, List.getElem_cons_succ]
          refine wpAnyH_take (i := 32) (v := ?_) rfl (by kernel_rfl) (by kernel_rfl) (by kernel_rfl) (fun _ _ _ h => h) (Or.inl ⟨by rfl, ?_⟩) hHeld ?_
          rotate_left
          · intro wq hSq; (try dsimp only at hSq); go_simp; try with_reducible rfl
          try simp only [Act.put, List.setIfInBounds_toArray, List.set_cons_zero, List.set_cons_succ, List.getElem_toArray, List.getElem_cons_zero, List.getElem_cons_succ]
          refine wpAnyH_done (by kernel_rfl) ?_ _
          refine NoPanic.normal ?_
          all_goals
            go_wp2_with fail
            go_roundw
            case rel => exact ⟨i + 1, by omega, by go_num, Lib.hid (HBv.out.trans (B3.out.mono HBv.out.size))⟩
            case measure => simp [intOf]; omega
        · obtain rfl : mn = i := by omega
          have HB := Lib.hid (HI10.out.bel.trans (HBr.out.mono HI10.out.bel.size))
          go_wp2_with (go_at_call 10; refine (HAW.out _ HB.out).mono ?_; rintro e w11 ⟨rfl, hb11⟩)
          go_ret
          exact ⟨rfl, HB.out.trans (hb11.mono HB.out.size)⟩
end Go.Proofs.YtmkbmdoglcimbaaDoor.RwKeeps
