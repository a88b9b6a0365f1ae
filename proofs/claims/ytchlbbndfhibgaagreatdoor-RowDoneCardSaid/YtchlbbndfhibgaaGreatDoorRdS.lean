/-
  RowDone: what its walk leans on: the state, the pure parts; the rest of its code behind its first statements.
-/
import Derived.Test.YtchlbbndfhibgaaGreatDoorL7
import Derived.Test.YtchlbbndfhibgaaGreatDoorL9
import Derived.Test.YtchlbbndfhibgaaGreatDoorRwAw
import Derived.Test.YtchlbbndfhibgaaGreatDoorRwW12
import Derived.Test.YtchlbbndfhibgaaGreatDoorL6
import Derived.Test.YtchlbbndfhibgaaGreatDoorBxV
import Derived.Test.YtchlbbndfhibgaaGreatDoorBxF
import Derived.Test.YtchlbbndfhibgaaGreatDoorBxH
import Derived.Test.YtchlbbndfhibgaaGreatDoorL1
import Derived.Deep.RegionHeld3
import Derived.Deep.DeepCutAuto
set_option linter.unusedVariables false
set_option linter.unusedSimpArgs false
namespace Go.Proofs.YtchlbbndfhibgaaGreatDoor.RdS
open Go.RowKit Go.Proofs.YtchlbbndfhibgaaGreatDoor.BxD Go.Proofs.YtchlbbndfhibgaaGreatDoor.BxKit Go.Proofs.YtchlbbndfhibgaaGreatDoor.BxA Go.Proofs.YtchlbbndfhibgaaGreatDoor.BxB Go.Proofs.YtchlbbndfhibgaaGreatDoor.BxR Go.Proofs.YtchlbbndfhibgaaGreatDoor.BxH Go.Proofs.YtchlbbndfhibgaaGreatDoor.BxF Go.Proofs.YtchlbbndfhibgaaGreatDoor.BxV Go.Proofs.YtchlbbndfhibgaaGreatDoor.RwD Go.Proofs.YtchlbbndfhibgaaGreatDoor.RwM Go.Proofs.YtchlbbndfhibgaaGreatDoor.RwF Go.Proofs.YtchlbbndfhibgaaGreatDoor.RwKit Go.Proofs.YtchlbbndfhibgaaGreatDoor.RdF Go.Proofs.YtchlbbndfhibgaaGreatDoor.RdD Go.Proofs.YtchlbbndfhibgaaGreatDoor.RpD

/-- The box's block and the message's, which stay. -/
structure St (w wr : World) (bc mc : Array Value) : Prop where
  bel : Below w.heap.size w wr
  bb : wr.heap[w.heap.size]? = some (.cells bc 25 (0, 0))
  mm : wr.heap[w.heap.size + 1]? = some (.cells mc 28 (0, 0))
theorem St.go {w wr w2 : World} {bc mc : Array Value} (h : St w wr bc mc) (hb : Below wr.heap.size wr w2) : St w w2 bc mc :=
  ⟨h.bel.trans (hb.mono h.bel.size), (hb.block _ (Array.getElem?_eq_some_iff.1 h.bb).1).trans h.bb, (hb.block _ (Array.getElem?_eq_some_iff.1 h.mm).1).trans h.mm⟩
theorem St.start (w : World) (bc mc : Array Value) : St w ((w.alloc (.cells bc 25)).alloc (.cells mc 28)) bc mc := by
  have e : (w.alloc (.cells bc 25)).heap.size = w.heap.size + 1 := by simp
  refine ⟨((Below.refl _ _).alloc (Nat.le_refl _) _).alloc (by simp) _, (heap_alloc_old _ _ (by simp)).trans (heap_alloc_new w _), ?_⟩
  have := heap_alloc_new (w.alloc (.cells bc 25)) (.cells mc 28)
  rwa [e] at this
theorem nw {w : World} {o : Obj} {b : Nat} (hb : b = w.heap.size) : (w.alloc o).heap[b]? = some o := by subst hb; exact heap_alloc_new w o
theorem od {w : World} {o : Obj} {b : Nat} {x : Obj} (h : w.heap[b]? = some x) : (w.alloc o).heap[b]? = some x := (heap_alloc_old _ _ (Array.getElem?_eq_some_iff.1 h).1).trans h
theorem dr {w : World} {b : Nat} {x : Obj} (h : w.heap[b]? = some x) : w.drew.heap[b]? = some x := h
theorem seven_at {w : World} {Q : Nat} {c0 c1 c2 c3 c4 c5 c6 : Value} {t : TypeId} (h : w.heap[Q]? = some (.cells #[c0, c1, c2, c3, c4, c5, c6] t (0, 0))) : w.cell? { block := Q, off := 0 } = some c0 ∧ w.cell? { block := Q, off := 1 } = some c1 ∧ w.cell? { block := Q, off := 2 } = some c2 ∧ w.cell? { block := Q, off := 3 } = some c3 ∧ w.cell? { block := Q, off := 4 } = some c4 ∧ w.cell? { block := Q, off := 5 } = some c5 ∧ w.cell? { block := Q, off := 6 } = some c6 := by
  have c := fun o => cell_of_row w Q o _ _ _ h
  exact ⟨(c 0).trans rfl, (c 1).trans rfl, (c 2).trans rfl, (c 3).trans rfl, (c 4).trans rfl, (c 5).trans rfl, (c 6).trans rfl⟩
theorem msg_one {w : World} {X B : Nat} {u md d fl : Int} {id tx : ByteArray} {KA : Option Addr} {kn kc : Nat} {ks : List Int} (h : w.heap[X]? = some (.cells #[.int .i64 u, .int .i64 md, .int .i64 d, .string id, .int .i64 fl, .slice KA kn kc, .string tx] 28 (0, 0))) (hk : IntsAt w B KA kn ks) (hB : B ≤ w.heap.size) (hkc : kn ≤ kc) (z3 : id.size ≤ 140737488355328) (z4 : tx.size ≤ 140737488355328) : MsgsAt w w.heap.size (some ⟨X, 0, none⟩) 1 [⟨u, md, d, id, fl, ks, tx⟩] := by
  have hc : ∀ o, w.cell? { block := X, off := o } = (#[.int .i64 u, .int .i64 md, .int .i64 d, .string id, .int .i64 fl, .slice KA kn kc, .string tx] : Array Value)[o]? := fun o => cell_of_row w X o _ _ _ h
  refine ⟨rfl, by decide, fun _ => ⟨_, rfl, (Array.getElem?_eq_some_iff.1 h).1, fun j x hx => ?_⟩⟩
  match j, hx with
  | 0, hx =>
    obtain rfl : ⟨u, md, d, id, fl, ks, tx⟩ = x := by simpa using hx
    refine ⟨(hc 0).trans rfl, (hc 1).trans rfl, (hc 2).trans rfl, (hc 3).trans rfl, (hc 4).trans rfl, ⟨KA, kc, ?_, ?_, ?_⟩, (hc 6).trans rfl, z3, z4⟩
    · have := (hc 5).trans rfl
      show _ = some (Value.slice KA ks.length kc)
      rw [hk.len]; exact this
    · show ks.length ≤ kc
      rw [hk.len]; exact hkc
    · show IntsAt _ _ KA ks.length ks
      rw [hk.len]
      exact IntsAt.more hk hB
  | j + 1, hx => simp at hx

theorem add_few {b : Box} {d fl : Int} {id tx : ByteArray} {words : List ByteArray} (h : addE b d id fl words tx = 0) : ∀ r ∈ addL b d id fl words tx, r.msg.keys.length ≤ 64 ∧ r.msg.id.size ≤ 300 ∧ r.msg.text.size ≤ 300 ∧ r.text.size ≤ 300 := by
  obtain ⟨h1, h2, h3, h4, h5, h6, h7⟩ := addE_parts h
  obtain ⟨w1, w2⟩ := (wordsB_iff _).1 h2
  obtain ⟨_, _, _, m4, _, m6, m7⟩ := PtD.mm_parts h7
  intro r hr
  unfold addL at hr
  rcases List.mem_append.1 hr with hr | hr
  · obtain ⟨x, hx, rfl⟩ := List.mem_map.1 hr
    have := (atB_size (w1 x ((newW_sub b.words words).subset hx))).2
    exact ⟨Nat.zero_le _, Nat.zero_le _, Nat.zero_le _, by show x.size ≤ 300; omega⟩
  · rw [List.mem_singleton] at hr
    rw [hr]
    exact ⟨(keys_fit m6 h4).2, by have := (atB_size m4).2; show (addM b d id fl words tx).id.size ≤ 300; omega, m7, Nat.zero_le _⟩
theorem add_all {b : Box} {d fl : Int} {id tx : ByteArray} {words : List ByteArray} (h : addE b d id fl words tx = 0) : allP b (addL b d id fl words tx) = (addC b d id fl words tx, 0) := by
  unfold allP
  rw [if_pos (addE_parts h).1]
  exact (add_done h).1
theorem cfacts {wr : World} {Q : Nat} {b : Box} {d fl : Int} {id tx : ByteArray} {words : List ByteArray} {vw vm : Value} (h : wr.heap[Q]? = some (.cells #[.string (addC b d id fl words tx).id, .int .i64 (addC b d id fl words tx).valid, .int .i64 (addC b d id fl words tx).next, .int .i64 (addC b d id fl words tx).high, vw, vm] 25 (0, 0))) :
    wr.cell? { block := Q, off := 0 } = some (.string b.id) ∧ wr.cell? { block := Q, off := 1 } = some (.int .i64 b.valid) ∧ wr.cell? { block := Q, off := 2 } = some (.int .i64 (b.next + 1)) ∧ wr.cell? { block := Q, off := 3 } = some (.int .i64 (b.high + 1)) ∧ wr.cell? { block := Q, off := 4 } = some vw ∧ wr.cell? { block := Q, off := 5 } = some vm := by
  obtain ⟨h0, h1, h2, h3, h4, h5, _⟩ := six_at h
  exact ⟨h0, h1, h2, h3, h4, h5⟩
theorem add_words {b : Box} {d fl : Int} {id tx : ByteArray} {words : List ByteArray} (h : addE b d id fl words tx = 0) : (wordsOf (addC b d id fl words tx).words (addM b d id fl words tx).keys).length = words.length := by
  obtain ⟨h1, h2, h3, h4, h5, h6, h7⟩ := addE_parts h
  obtain ⟨w1, w2⟩ := (wordsB_iff _).1 h2
  obtain ⟨p1, p2⟩ := (wordsB_iff _).1 ((mb_iff b).1 h1).2.2.2.1
  exact kW_words (allW_nodup p2 w2) w2 (fun w hw => allW_mem hw)
theorem flP_few {b : Box} {u flags how : Int} {words : List ByteArray} (hb : mbE b = 0) : ∀ r ∈ RwApi2.flP b u flags words how, r.msg.keys.length ≤ 1000000 := by
  intro r hr
  unfold RwApi2.flP RwW17.flP at hr
  split at hr
  · rename_i he
    obtain ⟨_, _, _, _, m, hm, h⟩ := flE_parts he
    unfold flL at hr
    rw [hm] at hr
    dsimp only at hr
    split at hr
    · simp at hr
    · rename_i hs
      rcases h with h | ⟨h, _⟩
      · exact absurd h hs
      rcases List.mem_append.1 hr with hr | hr
      · obtain ⟨x, _, rfl⟩ := List.mem_map.1 hr
        exact Nat.zero_le _
      · obtain rfl := List.mem_singleton.1 hr
        obtain ⟨_, _, _, _, hms, _⟩ := (mb_iff b).1 hb
        obtain ⟨_, _, _, _, _, q6, _⟩ := PtD.mm_parts (hms m (theM_mem hm).1).1
        have h1 := RwOwn.keys_le (flKeys_ok (words := words) (how := how) q6)
        show (flKeys b m words how).length ≤ 1000000
        omega
  · simp at hr
theorem all_flags {b : Box} {m : Msg} {u flags how : Int} {words : List ByteArray} (h : flE b u flags words how = 0) (hm : theM b.msgs u = some m) : allP b (RwApi2.flP b u flags words how) = (flC b m u flags words how, 0) := by
  unfold allP RwApi2.flP RwW17.flP
  rw [if_pos (flE_parts h).1, if_pos h]
  exact (fl_done h hm).1

theorem fl_find {b : Box} {m : Msg} {u flags how : Int} {words : List ByteArray} {j : Nat} (h : flE b u flags words how = 0) (hk : b.msgs[j]? = some m) (hu : m.uid = u) (hm : theM b.msgs u = some m) : findI (flC b m u flags words how).msgs u = j := by
  have hb := (flE_parts h).1
  obtain ⟨h1, _, _⟩ := flC_at (flags := flags) (words := words) (how := how) hb hk hu
  have hmay := (fl_done h hm).2
  have hr := ((mb_iff _).1 hmay).2.2.2.2.2
  have := (theM_at hr h1).2
  rwa [show (if flSame b m flags words how then m else flM b flags words how m).uid = u by split <;> exact hu] at this
theorem cut_one {b : Box} {u : Int} (hb : mbE b = 0) (hu : 0 ≤ findI b.msgs u) : cutOk b [u] := ⟨fun x hx => by rw [List.mem_singleton] at hx; rw [hx]; exact hu, by simp⟩
theorem cut_all {b : Box} {u : Int} (h : cutE b [u] = 0) (hb : mbE b = 0) (hu : 0 ≤ findI b.msgs u) : allP b (RwW12.cutP b [u]) = (cutC b [u], 0) ∧ mbE (cutC b [u]) = 0 ∧ findI (cutC b [u]).msgs u = -1 := by
  have hc := cut_one hb hu
  have hh : b.high + ([u] : List Int).length ≤ 1000000 := by
    unfold cutE at h
    rw [if_neg (by simpa using hb), if_pos hc] at h
    by_cases h3 : 1000000 < b.high + ([u] : List Int).length
    · rw [if_pos h3] at h; cases h
    · omega
  have hd := (cut_done [u] b hb hc hh).1
  refine ⟨?_, ?_, ?_⟩
  · unfold allP RwW12.cutP
    rw [if_pos hb, if_pos h]
    exact hd
  · have := (allG_grows b (cutG b.high [u]) hb (by rw [hd])).1
    rwa [hd] at this
  · refine findI_none fun x hx e => ?_
    have := (List.mem_filter.1 hx).2
    simp [e] at this
theorem cut_not {b : Box} {u : Int} (h : cutE b [u] ≠ 0) (hb : mbE b = 0) (hu : 0 ≤ findI b.msgs u) : cutE b [u] = 9 ∧ b.high = 1000000 := by
  have hc := cut_one hb hu
  obtain ⟨_, _, _, p4, _⟩ := head_parts ((mb_iff b).1 hb).1
  unfold cutE at h ⊢
  rw [if_neg (by simpa using hb), if_pos hc] at h ⊢
  by_cases h3 : 1000000 < b.high + ([u] : List Int).length
  · rw [if_pos h3]
    have : (([u] : List Int).length : Int) = 1 := rfl
    omega
  · rw [if_neg h3] at h
    exact absurd rfl h
theorem kfacts {wr : World} {Q : Nat} {b : Box} {u : Int} {vw vm : Value} (h : wr.heap[Q]? = some (.cells #[.string (cutC b [u]).id, .int .i64 (cutC b [u]).valid, .int .i64 (cutC b [u]).next, .int .i64 (cutC b [u]).high, vw, vm] 25 (0, 0))) :
    wr.cell? { block := Q, off := 0 } = some (.string b.id) ∧ wr.cell? { block := Q, off := 1 } = some (.int .i64 b.valid) ∧ wr.cell? { block := Q, off := 2 } = some (.int .i64 b.next) ∧ wr.cell? { block := Q, off := 3 } = some (.int .i64 (b.high + 1)) ∧ wr.cell? { block := Q, off := 4 } = some vw ∧ wr.cell? { block := Q, off := 5 } = some vm := by
  obtain ⟨h0, h1, h2, h3, h4, h5, _⟩ := six_at h
  exact ⟨h0, h1, h2, h3, h4, h5⟩
theorem ints_one {w : World} (x : Int) : IntsAt (w.alloc (.cells #[.int .i64 x] 3)) (w.alloc (.cells #[.int .i64 x] 3)).heap.size (some ⟨w.heap.size, 0, none⟩) 1 [x] := by
  refine ⟨rfl, by decide, fun _ => ⟨_, rfl, by simp, fun j y hy => ?_⟩⟩
  match j, hy with
  | 0, hy =>
    obtain rfl : x = y := by simpa using hy
    exact (cell_of_row _ w.heap.size 0 _ _ _ (heap_alloc_new w _)).trans rfl
  | j + 1, hy => simp at hy
theorem allq {w : World} {b : Box} {l : List Row} {WA MA A : Option Addr} {wn wc mn mcp n cp B : Nat} (hx : StrsAt w B WA wn b.words) (hm : MsgsAt w B MA mn b.msgs) (hwc : wn ≤ wc) (hmc : mn ≤ mcp) (hB : B ≤ w.heap.size) (hl : RowsAt w B A n l) (hn : n ≤ cp) (h6 : ∀ r ∈ l, r.msg.keys.length ≤ 1000000) :
    Calls Tryz.prog 14 #[.agg #[.string b.id, .int .i64 b.valid, .int .i64 b.next, .int .i64 b.high, .slice WA wn wc, .slice MA mn mcp], .slice A n cp] w (BoxOut (allP b l).1 (allP b l).2 w) := RwW10.all_any hx hm hwc hmc hB hl hn (fun r hr => Nat.le_trans (h6 r hr) (by decide))
/-- The code behind a first statement. -/
def tl : Code → Code
  | .seq _ c => c
  | c => c
noncomputable def from3 : Code := tl (tl (Tryz.f3.body.getD .skip))
noncomputable def from12 : Code := tl (tl from3)
noncomputable def from27 : Code := tl (tl (tl (tl from12)))
end Go.Proofs.YtchlbbndfhibgaaGreatDoor.RdS
