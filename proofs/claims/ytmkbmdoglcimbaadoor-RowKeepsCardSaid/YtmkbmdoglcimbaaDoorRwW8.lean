/-
  A row done to a box of the call's own: what the document asks.
-/
import Derived.Test.YtmkbmdoglcimbaaDoorRwW2
import Derived.Test.YtmkbmdoglcimbaaDoorRwW3
import Derived.Test.YtmkbmdoglcimbaaDoorRwW6
import Derived.Test.YtmkbmdoglcimbaaDoorRwW7
namespace Go.Proofs.YtmkbmdoglcimbaaDoor.RwW8
open Go.RowKit Go.Proofs.YtmkbmdoglcimbaaDoor.BxD Go.Proofs.YtmkbmdoglcimbaaDoor.BxKit Go.Proofs.YtmkbmdoglcimbaaDoor.BxA Go.Proofs.YtmkbmdoglcimbaaDoor.BxR Go.Proofs.YtmkbmdoglcimbaaDoor.BxC Go.Proofs.YtmkbmdoglcimbaaDoor.BxOp Go.Proofs.YtmkbmdoglcimbaaDoor.RwD Go.Proofs.YtmkbmdoglcimbaaDoor.RwKit Go.Proofs.YtmkbmdoglcimbaaDoor.RwOwn Go.Proofs.YtmkbmdoglcimbaaDoor.BxM Go.Proofs.YtmkbmdoglcimbaaDoor.RwW1 Go.Proofs.YtmkbmdoglcimbaaDoor.RwMb Go.Proofs.YtmkbmdoglcimbaaDoor.RwMc Go.Proofs.YtmkbmdoglcimbaaDoor.RwW2 Go.Proofs.YtmkbmdoglcimbaaDoor.RwW3 Go.Proofs.YtmkbmdoglcimbaaDoor.RwW4 Go.Proofs.YtmkbmdoglcimbaaDoor.RwW5 Go.Proofs.YtmkbmdoglcimbaaDoor.RwW6 Go.Proofs.YtmkbmdoglcimbaaDoor.RwW7

theorem find_cases (ms : List Msg) (u : Int) : findI ms u = -1 ∨ ∃ k m, ms[k]? = some m ∧ m.uid = u ∧ findI ms u = ((k : Nat) : Int) := by
  unfold findI
  split
  · rename_i i hi
    obtain ⟨hl, e, _⟩ := List.findIdx?_eq_some_iff_getElem.1 hi
    exact .inr ⟨i, ms[i], List.getElem?_eq_getElem hl, by simpa using e, rfl⟩
  · exact .inl rfl
theorem apE_change {b : Box} {r : Row} (hb : mbE b = 0) (hk : r.kind = 2 ∨ r.kind = 3 ∨ r.kind = 5 ∨ r.kind = 6) :
    apE b r = if findI b.msgs r.uid < 0 then 6 else if r.kind = 5 then (if atB r.text then 0 else 1) else if r.kind = 2 ∧ (flB r.msg.flags && keysB r.msg.keys b.words.length) = false then 1 else if modB r.mod then 0 else 1 := by
  unfold apE
  rw [if_neg (by omega), if_neg (by omega), if_neg (by omega), if_neg (by omega), if_pos hk]
theorem change_E {b : Box} {r : Row} {k : Nat} {m : Msg} (hb : mbE b = 0) (hk : r.kind = 2 ∨ r.kind = 3 ∨ r.kind = 5 ∨ r.kind = 6) (hm : b.msgs[k]? = some m) (hf : findI b.msgs r.uid = (k : Int)) :
    apE b r = if mmB b.words.length (chM m r) then 0 else 1 := by
  obtain ⟨_, _, _, _, h5, _⟩ := (mb_iff b).1 hb
  obtain ⟨p1, p2, p3, p4, p5, p6, p7⟩ := mm_parts (h5 m (List.mem_of_getElem? hm)).1
  rw [apE_change hb hk, if_neg (by omega)]
  by_cases k5 : r.kind = 5
  · rw [if_pos k5]
    have e : chM m r = ⟨m.uid, m.mod, m.date, r.text, m.flags, m.keys, m.text⟩ := by unfold chM; rw [if_neg (by omega), if_pos k5]
    rw [e]
    by_cases ha : atB r.text = true
    · rw [if_pos ha, if_pos (show mmB b.words.length ⟨m.uid, m.mod, m.date, r.text, m.flags, m.keys, m.text⟩ = true from mm_of p1 p2 p3 ha p5 p6 p7)]
    · rw [if_neg ha, if_neg (show ¬ mmB b.words.length ⟨m.uid, m.mod, m.date, r.text, m.flags, m.keys, m.text⟩ = true from fun h => ha (mm_parts h).2.2.2.1)]
  rw [if_neg k5]
  by_cases k2 : r.kind = 2
  · have e : chM m r = ⟨m.uid, r.mod, m.date, m.id, r.msg.flags, r.msg.keys, m.text⟩ := by unfold chM; rw [if_pos k2]
    rw [e]
    by_cases hfk : (flB r.msg.flags && keysB r.msg.keys b.words.length) = true
    · rw [if_neg (by rw [hfk]; simp)]
      rw [Bool.and_eq_true] at hfk
      by_cases hmo : modB r.mod = true
      · rw [if_pos hmo, if_pos (show mmB b.words.length ⟨m.uid, r.mod, m.date, m.id, r.msg.flags, r.msg.keys, m.text⟩ = true from mm_of p1 (inB_out hmo) p3 p4 (inB_out hfk.1) hfk.2 p7)]
      · rw [if_neg hmo, if_neg (show ¬ mmB b.words.length ⟨m.uid, r.mod, m.date, m.id, r.msg.flags, r.msg.keys, m.text⟩ = true from fun h => hmo (inB_true (mm_parts h).2.1.1 (mm_parts h).2.1.2))]
    · have hfk2 : (flB r.msg.flags && keysB r.msg.keys b.words.length) = false := by simpa using hfk
      have hn : ¬ mmB b.words.length ⟨m.uid, r.mod, m.date, m.id, r.msg.flags, r.msg.keys, m.text⟩ = true := fun h => by
        obtain ⟨_, _, _, _, q5, q6, _⟩ := mm_parts h
        exact hfk (by rw [Bool.and_eq_true]; exact ⟨inB_true q5.1 q5.2, q6⟩)
      rw [if_pos ⟨k2, hfk2⟩, if_neg hn]
  rw [if_neg (fun h => k2 h.1)]
  have e : chM m r = ⟨m.uid, r.mod, m.date, m.id, m.flags, m.keys, m.text⟩ := by unfold chM; rw [if_neg k2, if_neg k5, if_pos (by omega)]
  rw [e]
  by_cases hmo : modB r.mod = true
  · rw [if_pos hmo, if_pos (show mmB b.words.length ⟨m.uid, r.mod, m.date, m.id, m.flags, m.keys, m.text⟩ = true from mm_of p1 (inB_out hmo) p3 p4 p5 p6 p7)]
  · rw [if_neg hmo, if_neg (show ¬ mmB b.words.length ⟨m.uid, r.mod, m.date, m.id, m.flags, m.keys, m.text⟩ = true from fun h => hmo (inB_true (mm_parts h).2.1.1 (mm_parts h).2.1.2))]
theorem change_B {b : Box} {r : Row} {k : Nat} {m : Msg} (hb : mbE b = 0) (hk : r.kind = 2 ∨ r.kind = 3 ∨ r.kind = 5 ∨ r.kind = 6) (hm : b.msgs[k]? = some m) (hu : m.uid = r.uid) :
    apB b r = if r.kind = 3 then ⟨b.id, b.valid, b.next, max b.high (chM m r).mod, b.words, lessL b.msgs k⟩ else ⟨b.id, b.valid, b.next, max b.high (chM m r).mod, b.words, b.msgs.set k (chM m r)⟩ := by
  obtain ⟨_, _, _, _, h5, h6⟩ := (mb_iff b).1 hb
  have hh := (h5 m (List.mem_of_getElem? hm)).2.2
  unfold apB
  by_cases k3 : r.kind = 3
  · have e : chM m r = ⟨m.uid, r.mod, m.date, m.id, m.flags, m.keys, m.text⟩ := by unfold chM; rw [if_neg (by omega), if_neg (by omega), if_pos (.inr k3)]
    rw [if_neg (by omega), if_neg (by omega), if_neg (by omega), if_neg (by omega), if_pos k3, if_pos k3, e, del_less h6 hm hu]
  rw [if_neg (show ¬ r.kind = 1 by omega), if_neg (show ¬ r.kind = 4 by omega), if_neg (show ¬ r.kind = 7 by omega), if_neg k3, if_neg k3]
  by_cases k5 : r.kind = 5
  · have e : chM m r = ⟨m.uid, m.mod, m.date, r.text, m.flags, m.keys, m.text⟩ := by unfold chM; rw [if_neg (by omega), if_pos k5]
    rw [if_pos k5, e, upd_set h6 hm hu]
    show _ = Box.mk _ _ _ (max b.high m.mod) _ _
    rw [show max b.high m.mod = b.high by omega]
  rw [if_neg k5]
  by_cases k2 : r.kind = 2
  · have e : chM m r = ⟨m.uid, r.mod, m.date, m.id, r.msg.flags, r.msg.keys, m.text⟩ := by unfold chM; rw [if_pos k2]
    rw [if_pos k2, e, upd_set h6 hm hu]
  · have e : chM m r = ⟨m.uid, r.mod, m.date, m.id, m.flags, m.keys, m.text⟩ := by unfold chM; rw [if_neg k2, if_neg k5, if_pos (by omega)]
    rw [if_neg k2, e, upd_set h6 hm hu]
theorem withChange_any {w : World} {base B : Nat} {b : Box} {vw vm : Value} {rs : List Raw} {r : Row} {J : Option Addr} {jc : Nat} (h : OB w base b vw vm rs) (hf : Fit b) (hb : base ≤ w.heap.size) (hj : IntsAt w B J r.msg.keys.length r.msg.keys) (hB : B ≤ w.heap.size) (h6 : r.msg.keys.length ≤ 1000000) (h0 : mbE b = 0) (hk : r.kind = 2 ∨ r.kind = 3 ∨ r.kind = 5 ∨ r.kind = 6) :
    Calls Tryd.prog 71 #[.agg #[.string b.id, .int .i64 b.valid, .int .i64 b.next, .int .i64 b.high, vw, vm], .agg #[.int .i64 r.kind, .int .i64 r.uid, .int .i64 r.mod, .int .i64 r.msg.uid, .int .i64 r.msg.mod, .int .i64 r.msg.date, .string r.msg.id, .int .i64 r.msg.flags, .slice J r.msg.keys.length jc, .string r.msg.text, .string r.text]] w (WO (either (apE b r) (apB b r)) (apE b r) base w) := by
  rcases find_cases b.msgs r.uid with hn | ⟨k, m, hm, hu, hf1⟩
  · have hE : apE b r = 6 := by rw [apE_change h0 hk, if_pos (by omega)]
    rw [hE]
    unfold either
    rw [if_neg (by decide)]
    exact change_none h hf hb hj hB h6 hn
  · have hE := change_E h0 hk hm hf1
    have hBx := change_B h0 hk hm hu
    have hr : ∃ q, rs[k]? = some q ∧ q.m = m := by
      have := h.rm
      rw [← this, List.getElem?_map] at hm
      cases hq : rs[k]? with
      | none => rw [hq] at hm; cases hm
      | some q => rw [hq] at hm; exact ⟨q, rfl, Option.some.inj hm⟩
    obtain ⟨q, hr, rfl⟩ := hr
    by_cases hmm : mmB b.words.length (chM q.m r) = true
    · rw [if_pos hmm] at hE
      rw [hE, hBx]
      unfold either
      rw [if_pos rfl]
      by_cases k3 : r.kind = 3
      · rw [if_pos k3]
        exact change_cut h hf hb hj hB h6 hf1 hr hmm k3
      · rw [if_neg k3]
        exact change_set h hf hb hj hB h6 hf1 hr hmm k3
    · rw [if_neg hmm] at hE
      rw [hE]
      unfold either
      rw [if_neg (by decide)]
      exact change_bad h hf hb hj hB h6 hf1 hr (by simpa using hmm)
end Go.Proofs.YtmkbmdoglcimbaaDoor.RwW8
