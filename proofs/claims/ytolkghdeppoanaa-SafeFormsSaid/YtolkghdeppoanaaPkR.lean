/-
  The document's own answers, with the frame that they keep; the operations of a region that draws its order, one by one, over a frame that is not written out.
-/
import Derived.Test.YtolkghdeppoanaaJ1
set_option linter.unusedVariables false
set_option linter.unusedSimpArgs false
namespace Go.Proofs.Ytolkghdeppoanaa.PkR
open Go.RowKit Go.Proofs.Ytolkghdeppoanaa.PkKit Go.Proofs.Ytolkghdeppoanaa.PkA Go.Proofs.Ytolkghdeppoanaa.PkB Go.Proofs.Ytolkghdeppoanaa.PkC

/-- A row of the call's own that began as v0 at w0: nothing has turned but v0's own block, and what is new. -/
structure OG (w0 : World) (v0 : Value) (wr : World) (n : Nat) (v : Value) (l : List UInt8) : Prop where
  own : wr.ownsRow 0 5 1 v n (by_ l)
  fr : w0.grownBy wr v0.ownBlock
  at_ : ∀ k, v.ownBlock = some k → v0.ownBlock = some k ∨ w0.heap.size ≤ k
set_option maxRecDepth 100000 in
theorem OG.start {w : World} {base n : Nat} {v : Value} {l : List UInt8} (h : w.ownsRow base 5 1 v n (by_ l)) : OG w v w n v l := by
  refine ⟨⟨h.1, ?_⟩, World.grownBy.refl _ _, fun k hk => .inl hk⟩
  rcases h.2 with hn | ⟨g, cap, cur, hv, hbg, r⟩
  · exact .inl hn
  · exact .inr ⟨g, cap, cur, hv, Nat.zero_le _, r⟩
set_option maxRecDepth 100000 in
theorem OG.len {w0 wr : World} {v0 v : Value} {n : Nat} {l : List UInt8} (h : OG w0 v0 wr n v l) : l.length = n := by
  have := h.own.1
  rw [by_length] at this
  omega
set_option maxRecDepth 100000 in
theorem OG.alloc {w0 wr : World} {v0 v : Value} {n : Nat} {l : List UInt8} (h : OG w0 v0 wr n v l) (o : Obj) : OG w0 v0 (wr.alloc o) n v l :=
  ⟨h.own.alloc o, ⟨h.fr.os, h.fr.tape, h.fr.output, by simp; have := h.fr.size; omega, fun k hk hr => (Below.heap_alloc wr o k (Nat.lt_of_lt_of_le hk h.fr.size)).trans (h.fr.block k hk hr)⟩, h.at_⟩
set_option maxRecDepth 100000 in
theorem OG.app {w0 wr w2 : World} {v0 v v' : Value} {n m : Nat} {l l' : List UInt8} (h : OG w0 v0 wr n v l) (hown : w2.ownsRow 0 5 1 v' m (by_ l')) (hg : wr.grownBy w2 v.ownBlock) (hat : v'.ownBlock = v.ownBlock ∨ v'.ownBlock = some wr.heap.size) : OG w0 v0 w2 m v' l' := by
  refine ⟨hown, ⟨hg.os.trans h.fr.os, hg.tape.trans h.fr.tape, hg.output.trans h.fr.output, Nat.le_trans h.fr.size hg.size, fun k hk hr => ?_⟩, fun k hk => ?_⟩
  · refine (hg.block k (Nat.lt_of_lt_of_le hk h.fr.size) (fun e => ?_)).trans (h.fr.block k hk hr)
    rcases h.at_ k e.symm with h1 | h1
    · exact hr h1.symm
    · omega
  · rcases hat with h1 | h1
    · exact h.at_ k (h1.symm.trans hk)
    · rw [h1] at hk
      injection hk with hk
      exact .inr (by rw [← hk]; exact h.fr.size)
set_option maxHeartbeats 4000000 in
set_option maxRecDepth 100000 in
/-- A number is put behind a row of the call's own. -/
theorem putNumber_G {n : Nat} {w0 w : World} {v0 v : Value} {l : List UInt8} (hO : OG w0 v0 w n v l) (x : Int) (hn : n + 10 ≤ 140737488355328) :
    Calls Try.prog 37 #[v, .int .i64 x] w fun e w' => ∃ v', e = .returned v' ∧ OG w0 v0 w' (n + (Lib.uvarint (cl x)).length) v' (l ++ Lib.uvarint (cl x)) := by
  have hcl := cl_le x
  have hx : (x < 0 ∧ cl x = 0) ∨ (x = 0 ∧ cl x = 0) ∨ (x = ((cl x : Nat) : Int) ∧ 0 < (cl x : Int)) ∨ (1099511627776 < x ∧ cl x = 1099511627776) := by unfold cl; omega
  obtain ⟨m, hm⟩ : ∃ m, m = cl x := ⟨_, rfl⟩
  rw [← hm] at hcl hx ⊢
  have hlen := uv_len hcl
  have HO := Lib.hid hO
  have hcli : (m : Int) ≤ 1099511627776 := by omega
  clear hm hO
  rcases hx with ⟨hx, hm0⟩ | ⟨hx, hm0⟩ | ⟨hm0, hx⟩ | ⟨hx, hm0⟩ <;>
  · have HM := Lib.hid hm0
    try subst x
    try clear hm0
    go_enter Try.func37, Try.ntmps37
    go_wp2_with fail
    go_loopw [0, 1] (fun s0 s1 wr => ∃ (v' : Value) (y : Nat) (pre : List UInt8), s0 = v' ∧ s1 = .int .i64 y ∧ y ≤ m ∧ Hid (Lib.uvarint m = pre ++ Lib.uvarint y) ∧ Hid (OG w0 v0 wr (n + pre.length) v' (l ++ pre))) (fun _ s1 _ => (intOf s1).toNat)
    case atStart => exact ⟨_, m, [], rfl, by first | rfl | (rw [HM.out]; rfl), Nat.le_refl _, rfl, by rw [List.append_nil]; exact HO.out⟩
    case round =>
      clear HO HM
      obtain ⟨v', y, pre, rfl, rfl, hy, HS, HO⟩ := hrel
      have hpl : pre.length + (Lib.uvarint y).length ≤ 6 := by
        have h2 := congrArg List.length HS.out
        rw [List.length_append] at h2
        omega
      have hyp := Lib.uvarint_pos y
      obtain ⟨pn, hpn⟩ : ∃ pn, pn = pre.length := ⟨_, rfl⟩
      rw [← hpn] at HO
      obtain ⟨A, cp, rfl, hcp⟩ := own_slice HO.out.own
      have hn6 : n + pn + 1 ≤ 140737488355328 := by omega
      by_cases h128 : 128 ≤ y
      · have hand := i64_and127 (y : Int)
        have hor : bits .or .i64 ((y : Int) % 128) 128 = ((y % 128 + 128 : Nat) : Int) := by
          rw [show (y : Int) % 128 = ((y % 128 : Nat) : Int) by omega]
          exact i64_or_low _ (by omega)
        have hconv : (((y % 128 + 128 : Nat) : Int)) % 256 = ((y % 128 + 128 : Nat) : Int) := by omega
        have hbig := Lib.uvarint_big h128
        obtain ⟨c, hc⟩ : ∃ c : Nat, c = y % 128 + 128 := ⟨_, rfl⟩
        have hc2 : c < 256 := by omega
        rw [← hc] at hor hconv hbig
        have hby : by_ [c.toUInt8] = [Value.int .u8 (c : Int)] := by
          have := Lib.byteCells_snoc [] hc2
          simpa [Lib.byteCells] using this
        have HPN := Lib.hid hpn
        have HBG := Lib.hid hbig
        have HBY := Lib.hid hby
        clear hpl hyp hlen hcl hc hbig hby hpn
        go_wp2_with (at_builtin; refine wpList_by rfl _ _ rfl rfl rfl (HO.out.own.alloc _) (bytesAt_new wr [c.toUInt8] rfl (Nat.lt_succ_self _) rfl HBY.out.symm) hn6 (Nat.zero_le _) ?_; intro v3 w3 hown3 hg3 hat3)
        have HO3 := Lib.hid (show OG w0 v0 w3 (n + pn + 1) v3 (l ++ (pre ++ [c.toUInt8])) from (HO.out.alloc _).app (by rw [← List.append_assoc, by_append]; exact hown3) hg3 hat3)
        clear hown3 hg3 hat3 HO
        go_wp2_with fail
        go_roundw
        case rel => exact ⟨v3, y / 128, pre ++ [c.toUInt8], rfl, by go_num, by omega, HS.out.trans (by rw [HBG.out]; simp), by rw [List.length_append, ← HPN.out]; exact HO3.out⟩
        case measure => simp [intOf]; omega
      · have hsm : Lib.uvarint y = [y.toUInt8] := Lib.uvarint_small (by omega)
        have hby : by_ [y.toUInt8] = [Value.int .u8 (y : Int)] := by
          have := Lib.byteCells_snoc [] (show y < 256 by omega)
          simpa [Lib.byteCells] using this
        have HPN := Lib.hid hpn
        have HSM := Lib.hid hsm
        have HBY := Lib.hid hby
        clear hpl hyp hlen hcl hsm hby hpn
        go_wp2_with (at_builtin; refine wpList_by rfl _ _ rfl rfl rfl (HO.out.own.alloc _) (bytesAt_new wr [y.toUInt8] rfl (Nat.lt_succ_self _) rfl HBY.out.symm) hn6 (Nat.zero_le _) ?_; intro v3 w3 hown3 hg3 hat3)
        go_ret
        refine ⟨v3, rfl, ?_⟩
        rw [HS.out, HSM.out, List.length_append, ← HPN.out, List.length_singleton, ← Nat.add_assoc]
        exact (HO.out.alloc _).app (by rw [← List.append_assoc, by_append]; exact hown3) hg3 hat3
set_option maxRecDepth 100000 in
theorem OG.last {w0 wr w2 : World} {v0 v : Value} {n : Nat} {l : List UInt8} (h : OG w0 v0 wr n v l) (hg : wr.grownBy w2 v.ownBlock) : w0.grownBy w2 v0.ownBlock :=
  ⟨hg.os.trans h.fr.os, hg.tape.trans h.fr.tape, hg.output.trans h.fr.output, Nat.le_trans h.fr.size hg.size, fun k hk hr => by
    refine (hg.block k (Nat.lt_of_lt_of_le hk h.fr.size) (fun e => ?_)).trans (h.fr.block k hk hr)
    rcases h.at_ k e.symm with h1 | h1
    · exact hr h1.symm
    · omega⟩
/-- What comes back: a row with these bytes; nothing has turned but the old row's own block. -/
def Puts (w : World) (v : Value) (l : List UInt8) (e : Ending) (w' : World) : Prop := ∃ v', e = .returned v' ∧ w'.ownsRow 0 5 1 v' l.length (by_ l) ∧ w.grownBy w' v.ownBlock
set_option maxRecDepth 100000 in
theorem OG.puts {w w' : World} {v v' : Value} {n : Nat} {l : List UInt8} (h : OG w v w' n v' l) : Puts w v l (.returned v') w' := ⟨v', rfl, by rw [h.len]; exact h.own, h.fr⟩
set_option maxRecDepth 100000 in
theorem putN_puts {w : World} {base n : Nat} {v : Value} {l : List UInt8} (hO : w.ownsRow base 5 1 v n (by_ l)) (x : Int) (hn : n ≤ 1099511627776) :
    Calls Try.prog 37 #[v, .int .i64 x] w (Puts w v (l ++ Lib.uvarint (cl x))) :=
  (putNumber_G (OG.start hO) x (by omega)).mono fun e w' ⟨v', he, h⟩ => by subst he; exact h.puts

set_option maxRecDepth 100000 in
theorem putText_G {w : World} {base n : Nat} {v : Value} {l : List UInt8} (hO : w.ownsRow base 5 1 v n (by_ l)) (s : ByteArray) (hs : s.size ≤ 1099511627776) (hn : n ≤ 1099511627776) :
    Calls Try.prog 36 #[v, .string s] w (Puts w v (l ++ tx s)) := by
  have P := putNumber_G (OG.start hO) s.size (by omega)
  rw [cl_nat hs] at P
  obtain ⟨i0, hi, hz0, hz1, hz2⟩ := info_parts info5
  have HP := Lib.hid P
  have HI := Lib.hid hi
  have HI0 := Lib.hid hz0
  have HI1 := Lib.hid hz1
  have HI2 := Lib.hid hz2
  have hlen := uv_len hs
  clear P hi hz0 hz1 hz2 hO
  go_enter Try.func36, Try.ntmps36
  go_wp2_with fail
  refine HP.out.mono ?_
  rintro e w2 ⟨v2, rfl, O2⟩
  have O2 := Lib.hid O2
  go_wp2_with (at_builtin; refine Lib.wpList_append_own_string _ rfl _ _ 23 9 rfl 0 5 i0 Try.underlying23 Try.underlying9 HI.out HI0.out HI1.out HI2.out _ _ _ rfl O2.out.own s rfl (by unfold maxLen; omega) (by omega) (Nat.zero_le _) ?_; intro v3 w3 hown3 hg3 hnil3)
  go_ret
  refine ⟨v3, rfl, ?_, O2.out.last hg3⟩
  have hl := O2.out.len
  have e : (l ++ tx s).length = n + (Lib.uvarint s.size).length + s.size := by
    unfold tx
    rw [← List.append_assoc, List.length_append, hl, Array.length_toList]; rfl
  rw [e]
  unfold tx
  rw [← List.append_assoc, by_append, ← strCells_by]
  exact hown3
end Go.Proofs.Ytolkghdeppoanaa.PkR
