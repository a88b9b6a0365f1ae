/-
  The statement's region, a part of it: whatever order its operations come in, over a frame that is not written out.
-/
import Derived.Test.YteomdnmkcmgeaaaRh
set_option linter.unusedVariables false
set_option linter.unusedSimpArgs false
namespace Go.Proofs.Yteomdnmkcmgeaaa.Rg
open Go.RowKit Go.Proofs.Yteomdnmkcmgeaaa.Kit Go.Proofs.Yteomdnmkcmgeaaa.A Go.Proofs.Yteomdnmkcmgeaaa.B Go.Proofs.Yteomdnmkcmgeaaa.C Go.Proofs.Yteomdnmkcmgeaaa.R

set_option maxHeartbeats 8000000 in
theorem part2 {ops : Array Oper} {Q : Exit → Act → World → Prop} (hops : code3 = .region 3 ops true) (hQ : ∀ c (b : Act) (d : Nat) v w, Q (.panic c) (b.put (some d) v) w → Q (.panic c) b w)
    {A : Option Addr} {n cp : Nat} {b L : List UInt8} {S : ByteArray} {v1 v2 : Value} {w wa : World} {a : Act} {listed : Array Bool} (hL : 0 < L.length) (hS : S = ⟨L.toArray⟩) (hlisted : listed = #[true, true, true, true, true, true, true, true, true, true, true, true, false, false, false, false, false, false, false, false, false, false, false, false, false, false, false, false, false, false, false, false, false, false, false, false, false, false, false, false, false]) (HA : SA (.slice A n cp) v1 v2 a) (HG : a.eval (.tmp 27) = .bool true) (hW : WB w wa A n b) (hn : n ≤ 600)
    (HP : ∀ wx, WB w wx A n b → Calls Try.prog 11 #[.slice A n cp, v2] wx (PPost wx L)) (HR : ∀ wx v, wx.ownsRow w.heap.size 5 1 v n (by_ b) → Calls Try.prog 12 #[v, v2] wx (Puts wx v L))
    (hK : ∀ a' w', SA (.slice A n cp) v1 v2 a' → a'.eval (.tmp 40) = .bool true → WB w w' A n b → wpAny Try.prog .any ops Q 16 #[true, true, true, true, true, true, true, true, true, true, true, true, true, true, true, true, true, true, true, true, true, true, true, true, true, false, false, false, false, false, false, false, false, false, false, false, false, false, false, false, false] a' w') :
    wpAny Try.prog .any ops Q 29 listed a wa := by
  subst hlisted
  have hops' := hops
  unfold code3 at hops'
  conv at hops' => lhs; whnf
  injection hops' with _ hops'
  subst hops'
  clear hops
  refine take_ (i := 12) (d := 28) (v := (.slice A n cp)) rfl rfl (by kernel_rfl) (by kernel_rfl) (by kernel_rfl) hQ (y_move (s := 0) rfl (w_some (j := 11) (t := 27) rfl rfl (by simp [ev_same, ev_ne, sz_put, HA.sz, HA.e0, HA.e1, HA.e2, HG])) (by simp [ev_same, ev_ne, sz_put, HA.sz, HA.e0, HA.e1, HA.e2, HG])) ?_
  refine take_ (i := 13) (d := 29) (v := v2) rfl rfl (by kernel_rfl) (by kernel_rfl) (by kernel_rfl) hQ (y_move (s := 2) rfl (w_some (j := 11) (t := 27) rfl rfl (by simp [ev_same, ev_ne, sz_put, HA.sz, HA.e0, HA.e1, HA.e2, HG])) (by simp [ev_same, ev_ne, sz_put, HA.sz, HA.e0, HA.e1, HA.e2, HG])) ?_
  refine take_ (i := 17) (d := 33) (v := (.slice A n cp)) rfl rfl (by kernel_rfl) (by kernel_rfl) (by kernel_rfl) hQ (y_move (s := 0) rfl (w_some (j := 11) (t := 27) rfl rfl (by simp [ev_same, ev_ne, sz_put, HA.sz, HA.e0, HA.e1, HA.e2, HG])) (by simp [ev_same, ev_ne, sz_put, HA.sz, HA.e0, HA.e1, HA.e2, HG])) ?_
  refine take_ (i := 19) (d := 35) (v := v2) rfl rfl (by kernel_rfl) (by kernel_rfl) (by kernel_rfl) hQ (y_move (s := 2) rfl (w_some (j := 11) (t := 27) rfl rfl (by simp [ev_same, ev_ne, sz_put, HA.sz, HA.e0, HA.e1, HA.e2, HG])) (by simp [ev_same, ev_ne, sz_put, HA.sz, HA.e0, HA.e1, HA.e2, HG])) ?_
  refine all_ (rs := [14, 16]) (by kernel_rfl) (by simp) (fun i hi => ?_)
  simp only [List.mem_cons, List.not_mem_nil, or_false] at hi
  rcases hi with rfl | rfl
  · skip
    refine op_call2 (d := 30) (s := 28) (x := 29) rfl rfl (w_some (j := 11) (t := 27) rfl rfl (by simp [ev_same, ev_ne, sz_put, HA.sz, HA.e0, HA.e1, HA.e2, HG])) rfl (fun _ _ => by go_simp) (by simp [ev_same, ev_ne, sz_put, HA.sz, HA.e0, HA.e1, HA.e2, HG]) (by simp [ev_same, ev_ne, sz_put, HA.sz, HA.e0, HA.e1, HA.e2, HG]) (HP _ hW) (fun e w14q he => ?_)
    obtain ⟨A1, c1, rfl, hz14q, hb14q, hne14q⟩ := he
    refine ⟨_, rfl, ?_⟩
    have W14q := hW.below hb14q
    refine all_ (rs := [15, 16]) (by kernel_rfl) (by simp) (fun i hi => ?_)
    simp only [List.mem_cons, List.not_mem_nil, or_false] at hi
    rcases hi with rfl | rfl
    · skip
      have hc14q15q := hz14q.conv c1
      rw [← hS] at hc14q15q
      refine op_conv (d := 31) (s := 30) rfl rfl (w_some (j := 11) (t := 27) rfl rfl (by simp [ev_same, ev_ne, sz_put, HA.sz, HA.e0, HA.e1, HA.e2, HG])) rfl (by simp [ev_same, ev_ne, sz_put, HA.sz, HA.e0, HA.e1, HA.e2, HG]) hc14q15q ?_
      refine all_ (rs := [16]) (by kernel_rfl) (by simp) (fun i hi => ?_)
      obtain rfl := List.mem_singleton.1 hi
      refine op_build (d := 32) rfl rfl (w_some (j := 11) (t := 27) rfl rfl (by simp [ev_same, ev_ne, sz_put, HA.sz, HA.e0, HA.e1, HA.e2, HG])) rfl ?_
      have W14q15q16q := W14q.alloc (.cells #[] 5)
      have O14q15q16q := own_none w14q W14q.bel.size
      have z14q15q16q := (hz14q.alloc (Nat.le_refl _) (.cells #[] 5)).more (B' := (w14q.alloc (.cells #[] 5)).heap.size) (by simp)
      have R14q15q16q : PR (w14q.alloc (.cells #[] 5)) A1 L.length L (.slice (some ⟨w14q.heap.size, 0, none⟩) 0 0) := ⟨z14q15q16q, fun ad e he => by obtain ⟨ad', e', hlt, _⟩ := hz14q.2 hL; rw [e] at e'; injection e' with e'; subst e'; injection he with he; have he : w14q.heap.size = ad.block := he; omega⟩
      refine all_ (rs := [18]) (by kernel_rfl) (by simp) (fun i hi => ?_)
      obtain rfl := List.mem_singleton.1 hi
      obtain ⟨v14q15q16q18q, w14q15q16q18q, hr14q15q16q18q, ho14q15q16q18q, hg14q15q16q18q, hat14q15q16q18q⟩ := run_by (c := cp) 22 O14q15q16q W14q15q16q.z (by omega) W14q15q16q.bel.size
      refine op_append (d := 34) (s := 32) (x := 33) rfl rfl (w_some (j := 11) (t := 27) rfl rfl (by simp [ev_same, ev_ne, sz_put, HA.sz, HA.e0, HA.e1, HA.e2, HG])) rfl rfl (by simp [ev_same, ev_ne, sz_put, HA.sz, HA.e0, HA.e1, HA.e2, HG]) (by simp [ev_same, ev_ne, sz_put, HA.sz, HA.e0, HA.e1, HA.e2, HG]) hr14q15q16q18q ?_
      have W14q15q16q18q := WB.row (base := 0) W14q15q16q O14q15q16q hg14q15q16q18q
      have O14q15q16q18q : w14q15q16q18q.ownsRow w.heap.size 5 1 v14q15q16q18q n (by_ b) := by rw [Nat.zero_add] at ho14q15q16q18q; exact ho14q15q16q18q
      have R14q15q16q18q := R14q15q16q.row hL hg14q15q16q18q hat14q15q16q18q
      refine all_ (rs := [20]) (by kernel_rfl) (by simp) (fun i hi => ?_)
      obtain rfl := List.mem_singleton.1 hi
      refine op_call2 (d := 36) (s := 34) (x := 35) rfl rfl (w_some (j := 11) (t := 27) rfl rfl (by simp [ev_same, ev_ne, sz_put, HA.sz, HA.e0, HA.e1, HA.e2, HG])) rfl (fun _ _ => by go_simp) (by simp [ev_same, ev_ne, sz_put, HA.sz, HA.e0, HA.e1, HA.e2, HG]) (by simp [ev_same, ev_ne, sz_put, HA.sz, HA.e0, HA.e1, HA.e2, HG]) (HR _ _ O14q15q16q18q) (fun e w14q15q16q18q20q he => ?_)
      obtain ⟨A2, c2, rfl, hy14q15q16q18q20q, hg14q15q16q18q20q⟩ := puts_z he
      refine ⟨_, rfl, ?_⟩
      have W14q15q16q18q20q := WB.row (base := 0) W14q15q16q18q O14q15q16q18q hg14q15q16q18q20q
      have Z14q15q16q18q20q := (R14q15q16q18q.row hL hg14q15q16q18q20q (.inl rfl)).z
      refine all_ (rs := [21]) (by kernel_rfl) (by simp) (fun i hi => ?_)
      obtain rfl := List.mem_singleton.1 hi
      have hc14q15q16q18q20q21q := hy14q15q16q18q20q.conv c2
      rw [← hS] at hc14q15q16q18q20q21q
      refine op_conv (d := 37) (s := 36) rfl rfl (w_some (j := 11) (t := 27) rfl rfl (by simp [ev_same, ev_ne, sz_put, HA.sz, HA.e0, HA.e1, HA.e2, HG])) rfl (by simp [ev_same, ev_ne, sz_put, HA.sz, HA.e0, HA.e1, HA.e2, HG]) hc14q15q16q18q20q21q ?_
      refine take_ (i := 22) (d := 38) (v := (.bool true)) rfl rfl (by kernel_rfl) (by kernel_rfl) (by kernel_rfl) hQ (y_eql (s := 31) (x := 37) (S := S) rfl (w_some (j := 11) (t := 27) rfl rfl (by simp [ev_same, ev_ne, sz_put, HA.sz, HA.e0, HA.e1, HA.e2, HG])) (by simp [ev_same, ev_ne, sz_put, HA.sz, HA.e0, HA.e1, HA.e2, HG]) (by simp [ev_same, ev_ne, sz_put, HA.sz, HA.e0, HA.e1, HA.e2, HG])) ?_
      refine take_ (i := 23) (d := 39) (v := (.bool true)) rfl rfl (by kernel_rfl) (by kernel_rfl) (by kernel_rfl) hQ (y_pick (s := 27) (x := 38) rfl (w_none rfl) (by simp [ev_same, ev_ne, sz_put, HA.sz, HA.e0, HA.e1, HA.e2, HG]) (by simp [ev_same, ev_ne, sz_put, HA.sz, HA.e0, HA.e1, HA.e2, HG])) ?_
      refine take_ (i := 24) (d := 40) (v := (.bool true)) rfl rfl (by kernel_rfl) (by kernel_rfl) (by kernel_rfl) hQ (y_move (s := 39) rfl (w_none rfl) (by simp [ev_same, ev_ne, sz_put, HA.sz, HA.e0, HA.e1, HA.e2, HG])) ?_
      exact hK _ _ ⟨by simp only [sz_put]; exact HA.sz, by simp only [df_put]; exact HA.df, by simp [ev_same, ev_ne, sz_put, HA.sz, HA.e0, HA.e1, HA.e2, HG], by simp [ev_same, ev_ne, sz_put, HA.sz, HA.e0, HA.e1, HA.e2, HG], by simp [ev_same, ev_ne, sz_put, HA.sz, HA.e0, HA.e1, HA.e2, HG]⟩ (by simp [ev_same, ev_ne, sz_put, HA.sz, HA.e0, HA.e1, HA.e2, HG]) W14q15q16q18q20q
    · skip
      refine op_build (d := 32) rfl rfl (w_some (j := 11) (t := 27) rfl rfl (by simp [ev_same, ev_ne, sz_put, HA.sz, HA.e0, HA.e1, HA.e2, HG])) rfl ?_
      have W14q16q := W14q.alloc (.cells #[] 5)
      have O14q16q := own_none w14q W14q.bel.size
      have z14q16q := (hz14q.alloc (Nat.le_refl _) (.cells #[] 5)).more (B' := (w14q.alloc (.cells #[] 5)).heap.size) (by simp)
      have R14q16q : PR (w14q.alloc (.cells #[] 5)) A1 L.length L (.slice (some ⟨w14q.heap.size, 0, none⟩) 0 0) := ⟨z14q16q, fun ad e he => by obtain ⟨ad', e', hlt, _⟩ := hz14q.2 hL; rw [e] at e'; injection e' with e'; subst e'; injection he with he; have he : w14q.heap.size = ad.block := he; omega⟩
      refine all_ (rs := [15, 18]) (by kernel_rfl) (by simp) (fun i hi => ?_)
      simp only [List.mem_cons, List.not_mem_nil, or_false] at hi
      rcases hi with rfl | rfl
      · skip
        have hc14q16q15q := z14q16q.conv c1
        rw [← hS] at hc14q16q15q
        refine op_conv (d := 31) (s := 30) rfl rfl (w_some (j := 11) (t := 27) rfl rfl (by simp [ev_same, ev_ne, sz_put, HA.sz, HA.e0, HA.e1, HA.e2, HG])) rfl (by simp [ev_same, ev_ne, sz_put, HA.sz, HA.e0, HA.e1, HA.e2, HG]) hc14q16q15q ?_
        refine all_ (rs := [18]) (by kernel_rfl) (by simp) (fun i hi => ?_)
        obtain rfl := List.mem_singleton.1 hi
        obtain ⟨v14q16q15q18q, w14q16q15q18q, hr14q16q15q18q, ho14q16q15q18q, hg14q16q15q18q, hat14q16q15q18q⟩ := run_by (c := cp) 22 O14q16q W14q16q.z (by omega) W14q16q.bel.size
        refine op_append (d := 34) (s := 32) (x := 33) rfl rfl (w_some (j := 11) (t := 27) rfl rfl (by simp [ev_same, ev_ne, sz_put, HA.sz, HA.e0, HA.e1, HA.e2, HG])) rfl rfl (by simp [ev_same, ev_ne, sz_put, HA.sz, HA.e0, HA.e1, HA.e2, HG]) (by simp [ev_same, ev_ne, sz_put, HA.sz, HA.e0, HA.e1, HA.e2, HG]) hr14q16q15q18q ?_
        have W14q16q15q18q := WB.row (base := 0) W14q16q O14q16q hg14q16q15q18q
        have O14q16q15q18q : w14q16q15q18q.ownsRow w.heap.size 5 1 v14q16q15q18q n (by_ b) := by rw [Nat.zero_add] at ho14q16q15q18q; exact ho14q16q15q18q
        have R14q16q15q18q := R14q16q.row hL hg14q16q15q18q hat14q16q15q18q
        refine all_ (rs := [20]) (by kernel_rfl) (by simp) (fun i hi => ?_)
        obtain rfl := List.mem_singleton.1 hi
        refine op_call2 (d := 36) (s := 34) (x := 35) rfl rfl (w_some (j := 11) (t := 27) rfl rfl (by simp [ev_same, ev_ne, sz_put, HA.sz, HA.e0, HA.e1, HA.e2, HG])) rfl (fun _ _ => by go_simp) (by simp [ev_same, ev_ne, sz_put, HA.sz, HA.e0, HA.e1, HA.e2, HG]) (by simp [ev_same, ev_ne, sz_put, HA.sz, HA.e0, HA.e1, HA.e2, HG]) (HR _ _ O14q16q15q18q) (fun e w14q16q15q18q20q he => ?_)
        obtain ⟨A2, c2, rfl, hy14q16q15q18q20q, hg14q16q15q18q20q⟩ := puts_z he
        refine ⟨_, rfl, ?_⟩
        have W14q16q15q18q20q := WB.row (base := 0) W14q16q15q18q O14q16q15q18q hg14q16q15q18q20q
        have Z14q16q15q18q20q := (R14q16q15q18q.row hL hg14q16q15q18q20q (.inl rfl)).z
        refine all_ (rs := [21]) (by kernel_rfl) (by simp) (fun i hi => ?_)
        obtain rfl := List.mem_singleton.1 hi
        have hc14q16q15q18q20q21q := hy14q16q15q18q20q.conv c2
        rw [← hS] at hc14q16q15q18q20q21q
        refine op_conv (d := 37) (s := 36) rfl rfl (w_some (j := 11) (t := 27) rfl rfl (by simp [ev_same, ev_ne, sz_put, HA.sz, HA.e0, HA.e1, HA.e2, HG])) rfl (by simp [ev_same, ev_ne, sz_put, HA.sz, HA.e0, HA.e1, HA.e2, HG]) hc14q16q15q18q20q21q ?_
        refine take_ (i := 22) (d := 38) (v := (.bool true)) rfl rfl (by kernel_rfl) (by kernel_rfl) (by kernel_rfl) hQ (y_eql (s := 31) (x := 37) (S := S) rfl (w_some (j := 11) (t := 27) rfl rfl (by simp [ev_same, ev_ne, sz_put, HA.sz, HA.e0, HA.e1, HA.e2, HG])) (by simp [ev_same, ev_ne, sz_put, HA.sz, HA.e0, HA.e1, HA.e2, HG]) (by simp [ev_same, ev_ne, sz_put, HA.sz, HA.e0, HA.e1, HA.e2, HG])) ?_
        refine take_ (i := 23) (d := 39) (v := (.bool true)) rfl rfl (by kernel_rfl) (by kernel_rfl) (by kernel_rfl) hQ (y_pick (s := 27) (x := 38) rfl (w_none rfl) (by simp [ev_same, ev_ne, sz_put, HA.sz, HA.e0, HA.e1, HA.e2, HG]) (by simp [ev_same, ev_ne, sz_put, HA.sz, HA.e0, HA.e1, HA.e2, HG])) ?_
        refine take_ (i := 24) (d := 40) (v := (.bool true)) rfl rfl (by kernel_rfl) (by kernel_rfl) (by kernel_rfl) hQ (y_move (s := 39) rfl (w_none rfl) (by simp [ev_same, ev_ne, sz_put, HA.sz, HA.e0, HA.e1, HA.e2, HG])) ?_
        exact hK _ _ ⟨by simp only [sz_put]; exact HA.sz, by simp only [df_put]; exact HA.df, by simp [ev_same, ev_ne, sz_put, HA.sz, HA.e0, HA.e1, HA.e2, HG], by simp [ev_same, ev_ne, sz_put, HA.sz, HA.e0, HA.e1, HA.e2, HG], by simp [ev_same, ev_ne, sz_put, HA.sz, HA.e0, HA.e1, HA.e2, HG]⟩ (by simp [ev_same, ev_ne, sz_put, HA.sz, HA.e0, HA.e1, HA.e2, HG]) W14q16q15q18q20q
      · skip
        obtain ⟨v14q16q18q, w14q16q18q, hr14q16q18q, ho14q16q18q, hg14q16q18q, hat14q16q18q⟩ := run_by (c := cp) 22 O14q16q W14q16q.z (by omega) W14q16q.bel.size
        refine op_append (d := 34) (s := 32) (x := 33) rfl rfl (w_some (j := 11) (t := 27) rfl rfl (by simp [ev_same, ev_ne, sz_put, HA.sz, HA.e0, HA.e1, HA.e2, HG])) rfl rfl (by simp [ev_same, ev_ne, sz_put, HA.sz, HA.e0, HA.e1, HA.e2, HG]) (by simp [ev_same, ev_ne, sz_put, HA.sz, HA.e0, HA.e1, HA.e2, HG]) hr14q16q18q ?_
        have W14q16q18q := WB.row (base := 0) W14q16q O14q16q hg14q16q18q
        have O14q16q18q : w14q16q18q.ownsRow w.heap.size 5 1 v14q16q18q n (by_ b) := by rw [Nat.zero_add] at ho14q16q18q; exact ho14q16q18q
        have R14q16q18q := R14q16q.row hL hg14q16q18q hat14q16q18q
        refine all_ (rs := [15, 20]) (by kernel_rfl) (by simp) (fun i hi => ?_)
        simp only [List.mem_cons, List.not_mem_nil, or_false] at hi
        rcases hi with rfl | rfl
        · skip
          have hc14q16q18q15q := R14q16q18q.z.conv c1
          rw [← hS] at hc14q16q18q15q
          refine op_conv (d := 31) (s := 30) rfl rfl (w_some (j := 11) (t := 27) rfl rfl (by simp [ev_same, ev_ne, sz_put, HA.sz, HA.e0, HA.e1, HA.e2, HG])) rfl (by simp [ev_same, ev_ne, sz_put, HA.sz, HA.e0, HA.e1, HA.e2, HG]) hc14q16q18q15q ?_
          refine all_ (rs := [20]) (by kernel_rfl) (by simp) (fun i hi => ?_)
          obtain rfl := List.mem_singleton.1 hi
          refine op_call2 (d := 36) (s := 34) (x := 35) rfl rfl (w_some (j := 11) (t := 27) rfl rfl (by simp [ev_same, ev_ne, sz_put, HA.sz, HA.e0, HA.e1, HA.e2, HG])) rfl (fun _ _ => by go_simp) (by simp [ev_same, ev_ne, sz_put, HA.sz, HA.e0, HA.e1, HA.e2, HG]) (by simp [ev_same, ev_ne, sz_put, HA.sz, HA.e0, HA.e1, HA.e2, HG]) (HR _ _ O14q16q18q) (fun e w14q16q18q15q20q he => ?_)
          obtain ⟨A2, c2, rfl, hy14q16q18q15q20q, hg14q16q18q15q20q⟩ := puts_z he
          refine ⟨_, rfl, ?_⟩
          have W14q16q18q15q20q := WB.row (base := 0) W14q16q18q O14q16q18q hg14q16q18q15q20q
          have Z14q16q18q15q20q := (R14q16q18q.row hL hg14q16q18q15q20q (.inl rfl)).z
          refine all_ (rs := [21]) (by kernel_rfl) (by simp) (fun i hi => ?_)
          obtain rfl := List.mem_singleton.1 hi
          have hc14q16q18q15q20q21q := hy14q16q18q15q20q.conv c2
          rw [← hS] at hc14q16q18q15q20q21q
          refine op_conv (d := 37) (s := 36) rfl rfl (w_some (j := 11) (t := 27) rfl rfl (by simp [ev_same, ev_ne, sz_put, HA.sz, HA.e0, HA.e1, HA.e2, HG])) rfl (by simp [ev_same, ev_ne, sz_put, HA.sz, HA.e0, HA.e1, HA.e2, HG]) hc14q16q18q15q20q21q ?_
          refine take_ (i := 22) (d := 38) (v := (.bool true)) rfl rfl (by kernel_rfl) (by kernel_rfl) (by kernel_rfl) hQ (y_eql (s := 31) (x := 37) (S := S) rfl (w_some (j := 11) (t := 27) rfl rfl (by simp [ev_same, ev_ne, sz_put, HA.sz, HA.e0, HA.e1, HA.e2, HG])) (by simp [ev_same, ev_ne, sz_put, HA.sz, HA.e0, HA.e1, HA.e2, HG]) (by simp [ev_same, ev_ne, sz_put, HA.sz, HA.e0, HA.e1, HA.e2, HG])) ?_
          refine take_ (i := 23) (d := 39) (v := (.bool true)) rfl rfl (by kernel_rfl) (by kernel_rfl) (by kernel_rfl) hQ (y_pick (s := 27) (x := 38) rfl (w_none rfl) (by simp [ev_same, ev_ne, sz_put, HA.sz, HA.e0, HA.e1, HA.e2, HG]) (by simp [ev_same, ev_ne, sz_put, HA.sz, HA.e0, HA.e1, HA.e2, HG])) ?_
          refine take_ (i := 24) (d := 40) (v := (.bool true)) rfl rfl (by kernel_rfl) (by kernel_rfl) (by kernel_rfl) hQ (y_move (s := 39) rfl (w_none rfl) (by simp [ev_same, ev_ne, sz_put, HA.sz, HA.e0, HA.e1, HA.e2, HG])) ?_
          exact hK _ _ ⟨by simp only [sz_put]; exact HA.sz, by simp only [df_put]; exact HA.df, by simp [ev_same, ev_ne, sz_put, HA.sz, HA.e0, HA.e1, HA.e2, HG], by simp [ev_same, ev_ne, sz_put, HA.sz, HA.e0, HA.e1, HA.e2, HG], by simp [ev_same, ev_ne, sz_put, HA.sz, HA.e0, HA.e1, HA.e2, HG]⟩ (by simp [ev_same, ev_ne, sz_put, HA.sz, HA.e0, HA.e1, HA.e2, HG]) W14q16q18q15q20q
        · skip
          refine op_call2 (d := 36) (s := 34) (x := 35) rfl rfl (w_some (j := 11) (t := 27) rfl rfl (by simp [ev_same, ev_ne, sz_put, HA.sz, HA.e0, HA.e1, HA.e2, HG])) rfl (fun _ _ => by go_simp) (by simp [ev_same, ev_ne, sz_put, HA.sz, HA.e0, HA.e1, HA.e2, HG]) (by simp [ev_same, ev_ne, sz_put, HA.sz, HA.e0, HA.e1, HA.e2, HG]) (HR _ _ O14q16q18q) (fun e w14q16q18q20q he => ?_)
          obtain ⟨A2, c2, rfl, hy14q16q18q20q, hg14q16q18q20q⟩ := puts_z he
          refine ⟨_, rfl, ?_⟩
          have W14q16q18q20q := WB.row (base := 0) W14q16q18q O14q16q18q hg14q16q18q20q
          have Z14q16q18q20q := (R14q16q18q.row hL hg14q16q18q20q (.inl rfl)).z
          refine all_ (rs := [15, 21]) (by kernel_rfl) (by simp) (fun i hi => ?_)
          simp only [List.mem_cons, List.not_mem_nil, or_false] at hi
          rcases hi with rfl | rfl
          · skip
            have hc14q16q18q20q15q := Z14q16q18q20q.conv c1
            rw [← hS] at hc14q16q18q20q15q
            refine op_conv (d := 31) (s := 30) rfl rfl (w_some (j := 11) (t := 27) rfl rfl (by simp [ev_same, ev_ne, sz_put, HA.sz, HA.e0, HA.e1, HA.e2, HG])) rfl (by simp [ev_same, ev_ne, sz_put, HA.sz, HA.e0, HA.e1, HA.e2, HG]) hc14q16q18q20q15q ?_
            refine all_ (rs := [21]) (by kernel_rfl) (by simp) (fun i hi => ?_)
            obtain rfl := List.mem_singleton.1 hi
            have hc14q16q18q20q15q21q := hy14q16q18q20q.conv c2
            rw [← hS] at hc14q16q18q20q15q21q
            refine op_conv (d := 37) (s := 36) rfl rfl (w_some (j := 11) (t := 27) rfl rfl (by simp [ev_same, ev_ne, sz_put, HA.sz, HA.e0, HA.e1, HA.e2, HG])) rfl (by simp [ev_same, ev_ne, sz_put, HA.sz, HA.e0, HA.e1, HA.e2, HG]) hc14q16q18q20q15q21q ?_
            refine take_ (i := 22) (d := 38) (v := (.bool true)) rfl rfl (by kernel_rfl) (by kernel_rfl) (by kernel_rfl) hQ (y_eql (s := 31) (x := 37) (S := S) rfl (w_some (j := 11) (t := 27) rfl rfl (by simp [ev_same, ev_ne, sz_put, HA.sz, HA.e0, HA.e1, HA.e2, HG])) (by simp [ev_same, ev_ne, sz_put, HA.sz, HA.e0, HA.e1, HA.e2, HG]) (by simp [ev_same, ev_ne, sz_put, HA.sz, HA.e0, HA.e1, HA.e2, HG])) ?_
            refine take_ (i := 23) (d := 39) (v := (.bool true)) rfl rfl (by kernel_rfl) (by kernel_rfl) (by kernel_rfl) hQ (y_pick (s := 27) (x := 38) rfl (w_none rfl) (by simp [ev_same, ev_ne, sz_put, HA.sz, HA.e0, HA.e1, HA.e2, HG]) (by simp [ev_same, ev_ne, sz_put, HA.sz, HA.e0, HA.e1, HA.e2, HG])) ?_
            refine take_ (i := 24) (d := 40) (v := (.bool true)) rfl rfl (by kernel_rfl) (by kernel_rfl) (by kernel_rfl) hQ (y_move (s := 39) rfl (w_none rfl) (by simp [ev_same, ev_ne, sz_put, HA.sz, HA.e0, HA.e1, HA.e2, HG])) ?_
            exact hK _ _ ⟨by simp only [sz_put]; exact HA.sz, by simp only [df_put]; exact HA.df, by simp [ev_same, ev_ne, sz_put, HA.sz, HA.e0, HA.e1, HA.e2, HG], by simp [ev_same, ev_ne, sz_put, HA.sz, HA.e0, HA.e1, HA.e2, HG], by simp [ev_same, ev_ne, sz_put, HA.sz, HA.e0, HA.e1, HA.e2, HG]⟩ (by simp [ev_same, ev_ne, sz_put, HA.sz, HA.e0, HA.e1, HA.e2, HG]) W14q16q18q20q
          · skip
            have hc14q16q18q20q21q := hy14q16q18q20q.conv c2
            rw [← hS] at hc14q16q18q20q21q
            refine op_conv (d := 37) (s := 36) rfl rfl (w_some (j := 11) (t := 27) rfl rfl (by simp [ev_same, ev_ne, sz_put, HA.sz, HA.e0, HA.e1, HA.e2, HG])) rfl (by simp [ev_same, ev_ne, sz_put, HA.sz, HA.e0, HA.e1, HA.e2, HG]) hc14q16q18q20q21q ?_
            refine all_ (rs := [15]) (by kernel_rfl) (by simp) (fun i hi => ?_)
            obtain rfl := List.mem_singleton.1 hi
            have hc14q16q18q20q21q15q := Z14q16q18q20q.conv c1
            rw [← hS] at hc14q16q18q20q21q15q
            refine op_conv (d := 31) (s := 30) rfl rfl (w_some (j := 11) (t := 27) rfl rfl (by simp [ev_same, ev_ne, sz_put, HA.sz, HA.e0, HA.e1, HA.e2, HG])) rfl (by simp [ev_same, ev_ne, sz_put, HA.sz, HA.e0, HA.e1, HA.e2, HG]) hc14q16q18q20q21q15q ?_
            refine take_ (i := 22) (d := 38) (v := (.bool true)) rfl rfl (by kernel_rfl) (by kernel_rfl) (by kernel_rfl) hQ (y_eql (s := 31) (x := 37) (S := S) rfl (w_some (j := 11) (t := 27) rfl rfl (by simp [ev_same, ev_ne, sz_put, HA.sz, HA.e0, HA.e1, HA.e2, HG])) (by simp [ev_same, ev_ne, sz_put, HA.sz, HA.e0, HA.e1, HA.e2, HG]) (by simp [ev_same, ev_ne, sz_put, HA.sz, HA.e0, HA.e1, HA.e2, HG])) ?_
            refine take_ (i := 23) (d := 39) (v := (.bool true)) rfl rfl (by kernel_rfl) (by kernel_rfl) (by kernel_rfl) hQ (y_pick (s := 27) (x := 38) rfl (w_none rfl) (by simp [ev_same, ev_ne, sz_put, HA.sz, HA.e0, HA.e1, HA.e2, HG]) (by simp [ev_same, ev_ne, sz_put, HA.sz, HA.e0, HA.e1, HA.e2, HG])) ?_
            refine take_ (i := 24) (d := 40) (v := (.bool true)) rfl rfl (by kernel_rfl) (by kernel_rfl) (by kernel_rfl) hQ (y_move (s := 39) rfl (w_none rfl) (by simp [ev_same, ev_ne, sz_put, HA.sz, HA.e0, HA.e1, HA.e2, HG])) ?_
            exact hK _ _ ⟨by simp only [sz_put]; exact HA.sz, by simp only [df_put]; exact HA.df, by simp [ev_same, ev_ne, sz_put, HA.sz, HA.e0, HA.e1, HA.e2, HG], by simp [ev_same, ev_ne, sz_put, HA.sz, HA.e0, HA.e1, HA.e2, HG], by simp [ev_same, ev_ne, sz_put, HA.sz, HA.e0, HA.e1, HA.e2, HG]⟩ (by simp [ev_same, ev_ne, sz_put, HA.sz, HA.e0, HA.e1, HA.e2, HG]) W14q16q18q20q
  · skip
    refine op_build (d := 32) rfl rfl (w_some (j := 11) (t := 27) rfl rfl (by simp [ev_same, ev_ne, sz_put, HA.sz, HA.e0, HA.e1, HA.e2, HG])) rfl ?_
    have W16q := hW.alloc (.cells #[] 5)
    have O16q := own_none wa hW.bel.size
    refine all_ (rs := [14]) (by kernel_rfl) (by simp) (fun i hi => ?_)
    obtain rfl := List.mem_singleton.1 hi
    refine op_call2 (d := 30) (s := 28) (x := 29) rfl rfl (w_some (j := 11) (t := 27) rfl rfl (by simp [ev_same, ev_ne, sz_put, HA.sz, HA.e0, HA.e1, HA.e2, HG])) rfl (fun _ _ => by go_simp) (by simp [ev_same, ev_ne, sz_put, HA.sz, HA.e0, HA.e1, HA.e2, HG]) (by simp [ev_same, ev_ne, sz_put, HA.sz, HA.e0, HA.e1, HA.e2, HG]) (HP _ W16q) (fun e w16q14q he => ?_)
    obtain ⟨A1, c1, rfl, hz16q14q, hb16q14q, hne16q14q⟩ := he
    refine ⟨_, rfl, ?_⟩
    have W16q14q := W16q.below hb16q14q
    have O16q14q := O16q.kept (grown_below hb16q14q none) (.inr (by simp [Value.ownBlock]))
    have R16q14q : PR w16q14q A1 L.length L (.slice (some ⟨wa.heap.size, 0, none⟩) 0 0) := ⟨hz16q14q, fun ad e he => by have h1 := (O16q.lt _ he).2; have h2 := hne16q14q ad e hL; omega⟩
    refine all_ (rs := [15, 18]) (by kernel_rfl) (by simp) (fun i hi => ?_)
    simp only [List.mem_cons, List.not_mem_nil, or_false] at hi
    rcases hi with rfl | rfl
    · skip
      have hc16q14q15q := hz16q14q.conv c1
      rw [← hS] at hc16q14q15q
      refine op_conv (d := 31) (s := 30) rfl rfl (w_some (j := 11) (t := 27) rfl rfl (by simp [ev_same, ev_ne, sz_put, HA.sz, HA.e0, HA.e1, HA.e2, HG])) rfl (by simp [ev_same, ev_ne, sz_put, HA.sz, HA.e0, HA.e1, HA.e2, HG]) hc16q14q15q ?_
      refine all_ (rs := [18]) (by kernel_rfl) (by simp) (fun i hi => ?_)
      obtain rfl := List.mem_singleton.1 hi
      obtain ⟨v16q14q15q18q, w16q14q15q18q, hr16q14q15q18q, ho16q14q15q18q, hg16q14q15q18q, hat16q14q15q18q⟩ := run_by (c := cp) 22 O16q14q W16q14q.z (by omega) W16q14q.bel.size
      refine op_append (d := 34) (s := 32) (x := 33) rfl rfl (w_some (j := 11) (t := 27) rfl rfl (by simp [ev_same, ev_ne, sz_put, HA.sz, HA.e0, HA.e1, HA.e2, HG])) rfl rfl (by simp [ev_same, ev_ne, sz_put, HA.sz, HA.e0, HA.e1, HA.e2, HG]) (by simp [ev_same, ev_ne, sz_put, HA.sz, HA.e0, HA.e1, HA.e2, HG]) hr16q14q15q18q ?_
      have W16q14q15q18q := WB.row (base := 0) W16q14q O16q14q hg16q14q15q18q
      have O16q14q15q18q : w16q14q15q18q.ownsRow w.heap.size 5 1 v16q14q15q18q n (by_ b) := by rw [Nat.zero_add] at ho16q14q15q18q; exact ho16q14q15q18q
      have R16q14q15q18q := R16q14q.row hL hg16q14q15q18q hat16q14q15q18q
      refine all_ (rs := [20]) (by kernel_rfl) (by simp) (fun i hi => ?_)
      obtain rfl := List.mem_singleton.1 hi
      refine op_call2 (d := 36) (s := 34) (x := 35) rfl rfl (w_some (j := 11) (t := 27) rfl rfl (by simp [ev_same, ev_ne, sz_put, HA.sz, HA.e0, HA.e1, HA.e2, HG])) rfl (fun _ _ => by go_simp) (by simp [ev_same, ev_ne, sz_put, HA.sz, HA.e0, HA.e1, HA.e2, HG]) (by simp [ev_same, ev_ne, sz_put, HA.sz, HA.e0, HA.e1, HA.e2, HG]) (HR _ _ O16q14q15q18q) (fun e w16q14q15q18q20q he => ?_)
      obtain ⟨A2, c2, rfl, hy16q14q15q18q20q, hg16q14q15q18q20q⟩ := puts_z he
      refine ⟨_, rfl, ?_⟩
      have W16q14q15q18q20q := WB.row (base := 0) W16q14q15q18q O16q14q15q18q hg16q14q15q18q20q
      have Z16q14q15q18q20q := (R16q14q15q18q.row hL hg16q14q15q18q20q (.inl rfl)).z
      refine all_ (rs := [21]) (by kernel_rfl) (by simp) (fun i hi => ?_)
      obtain rfl := List.mem_singleton.1 hi
      have hc16q14q15q18q20q21q := hy16q14q15q18q20q.conv c2
      rw [← hS] at hc16q14q15q18q20q21q
      refine op_conv (d := 37) (s := 36) rfl rfl (w_some (j := 11) (t := 27) rfl rfl (by simp [ev_same, ev_ne, sz_put, HA.sz, HA.e0, HA.e1, HA.e2, HG])) rfl (by simp [ev_same, ev_ne, sz_put, HA.sz, HA.e0, HA.e1, HA.e2, HG]) hc16q14q15q18q20q21q ?_
      refine take_ (i := 22) (d := 38) (v := (.bool true)) rfl rfl (by kernel_rfl) (by kernel_rfl) (by kernel_rfl) hQ (y_eql (s := 31) (x := 37) (S := S) rfl (w_some (j := 11) (t := 27) rfl rfl (by simp [ev_same, ev_ne, sz_put, HA.sz, HA.e0, HA.e1, HA.e2, HG])) (by simp [ev_same, ev_ne, sz_put, HA.sz, HA.e0, HA.e1, HA.e2, HG]) (by simp [ev_same, ev_ne, sz_put, HA.sz, HA.e0, HA.e1, HA.e2, HG])) ?_
      refine take_ (i := 23) (d := 39) (v := (.bool true)) rfl rfl (by kernel_rfl) (by kernel_rfl) (by kernel_rfl) hQ (y_pick (s := 27) (x := 38) rfl (w_none rfl) (by simp [ev_same, ev_ne, sz_put, HA.sz, HA.e0, HA.e1, HA.e2, HG]) (by simp [ev_same, ev_ne, sz_put, HA.sz, HA.e0, HA.e1, HA.e2, HG])) ?_
      refine take_ (i := 24) (d := 40) (v := (.bool true)) rfl rfl (by kernel_rfl) (by kernel_rfl) (by kernel_rfl) hQ (y_move (s := 39) rfl (w_none rfl) (by simp [ev_same, ev_ne, sz_put, HA.sz, HA.e0, HA.e1, HA.e2, HG])) ?_
      exact hK _ _ ⟨by simp only [sz_put]; exact HA.sz, by simp only [df_put]; exact HA.df, by simp [ev_same, ev_ne, sz_put, HA.sz, HA.e0, HA.e1, HA.e2, HG], by simp [ev_same, ev_ne, sz_put, HA.sz, HA.e0, HA.e1, HA.e2, HG], by simp [ev_same, ev_ne, sz_put, HA.sz, HA.e0, HA.e1, HA.e2, HG]⟩ (by simp [ev_same, ev_ne, sz_put, HA.sz, HA.e0, HA.e1, HA.e2, HG]) W16q14q15q18q20q
    · skip
      obtain ⟨v16q14q18q, w16q14q18q, hr16q14q18q, ho16q14q18q, hg16q14q18q, hat16q14q18q⟩ := run_by (c := cp) 22 O16q14q W16q14q.z (by omega) W16q14q.bel.size
      refine op_append (d := 34) (s := 32) (x := 33) rfl rfl (w_some (j := 11) (t := 27) rfl rfl (by simp [ev_same, ev_ne, sz_put, HA.sz, HA.e0, HA.e1, HA.e2, HG])) rfl rfl (by simp [ev_same, ev_ne, sz_put, HA.sz, HA.e0, HA.e1, HA.e2, HG]) (by simp [ev_same, ev_ne, sz_put, HA.sz, HA.e0, HA.e1, HA.e2, HG]) hr16q14q18q ?_
      have W16q14q18q := WB.row (base := 0) W16q14q O16q14q hg16q14q18q
      have O16q14q18q : w16q14q18q.ownsRow w.heap.size 5 1 v16q14q18q n (by_ b) := by rw [Nat.zero_add] at ho16q14q18q; exact ho16q14q18q
      have R16q14q18q := R16q14q.row hL hg16q14q18q hat16q14q18q
      refine all_ (rs := [15, 20]) (by kernel_rfl) (by simp) (fun i hi => ?_)
      simp only [List.mem_cons, List.not_mem_nil, or_false] at hi
      rcases hi with rfl | rfl
      · skip
        have hc16q14q18q15q := R16q14q18q.z.conv c1
        rw [← hS] at hc16q14q18q15q
        refine op_conv (d := 31) (s := 30) rfl rfl (w_some (j := 11) (t := 27) rfl rfl (by simp [ev_same, ev_ne, sz_put, HA.sz, HA.e0, HA.e1, HA.e2, HG])) rfl (by simp [ev_same, ev_ne, sz_put, HA.sz, HA.e0, HA.e1, HA.e2, HG]) hc16q14q18q15q ?_
        refine all_ (rs := [20]) (by kernel_rfl) (by simp) (fun i hi => ?_)
        obtain rfl := List.mem_singleton.1 hi
        refine op_call2 (d := 36) (s := 34) (x := 35) rfl rfl (w_some (j := 11) (t := 27) rfl rfl (by simp [ev_same, ev_ne, sz_put, HA.sz, HA.e0, HA.e1, HA.e2, HG])) rfl (fun _ _ => by go_simp) (by simp [ev_same, ev_ne, sz_put, HA.sz, HA.e0, HA.e1, HA.e2, HG]) (by simp [ev_same, ev_ne, sz_put, HA.sz, HA.e0, HA.e1, HA.e2, HG]) (HR _ _ O16q14q18q) (fun e w16q14q18q15q20q he => ?_)
        obtain ⟨A2, c2, rfl, hy16q14q18q15q20q, hg16q14q18q15q20q⟩ := puts_z he
        refine ⟨_, rfl, ?_⟩
        have W16q14q18q15q20q := WB.row (base := 0) W16q14q18q O16q14q18q hg16q14q18q15q20q
        have Z16q14q18q15q20q := (R16q14q18q.row hL hg16q14q18q15q20q (.inl rfl)).z
        refine all_ (rs := [21]) (by kernel_rfl) (by simp) (fun i hi => ?_)
        obtain rfl := List.mem_singleton.1 hi
        have hc16q14q18q15q20q21q := hy16q14q18q15q20q.conv c2
        rw [← hS] at hc16q14q18q15q20q21q
        refine op_conv (d := 37) (s := 36) rfl rfl (w_some (j := 11) (t := 27) rfl rfl (by simp [ev_same, ev_ne, sz_put, HA.sz, HA.e0, HA.e1, HA.e2, HG])) rfl (by simp [ev_same, ev_ne, sz_put, HA.sz, HA.e0, HA.e1, HA.e2, HG]) hc16q14q18q15q20q21q ?_
        refine take_ (i := 22) (d := 38) (v := (.bool true)) rfl rfl (by kernel_rfl) (by kernel_rfl) (by kernel_rfl) hQ (y_eql (s := 31) (x := 37) (S := S) rfl (w_some (j := 11) (t := 27) rfl rfl (by simp [ev_same, ev_ne, sz_put, HA.sz, HA.e0, HA.e1, HA.e2, HG])) (by simp [ev_same, ev_ne, sz_put, HA.sz, HA.e0, HA.e1, HA.e2, HG]) (by simp [ev_same, ev_ne, sz_put, HA.sz, HA.e0, HA.e1, HA.e2, HG])) ?_
        refine take_ (i := 23) (d := 39) (v := (.bool true)) rfl rfl (by kernel_rfl) (by kernel_rfl) (by kernel_rfl) hQ (y_pick (s := 27) (x := 38) rfl (w_none rfl) (by simp [ev_same, ev_ne, sz_put, HA.sz, HA.e0, HA.e1, HA.e2, HG]) (by simp [ev_same, ev_ne, sz_put, HA.sz, HA.e0, HA.e1, HA.e2, HG])) ?_
        refine take_ (i := 24) (d := 40) (v := (.bool true)) rfl rfl (by kernel_rfl) (by kernel_rfl) (by kernel_rfl) hQ (y_move (s := 39) rfl (w_none rfl) (by simp [ev_same, ev_ne, sz_put, HA.sz, HA.e0, HA.e1, HA.e2, HG])) ?_
        exact hK _ _ ⟨by simp only [sz_put]; exact HA.sz, by simp only [df_put]; exact HA.df, by simp [ev_same, ev_ne, sz_put, HA.sz, HA.e0, HA.e1, HA.e2, HG], by simp [ev_same, ev_ne, sz_put, HA.sz, HA.e0, HA.e1, HA.e2, HG], by simp [ev_same, ev_ne, sz_put, HA.sz, HA.e0, HA.e1, HA.e2, HG]⟩ (by simp [ev_same, ev_ne, sz_put, HA.sz, HA.e0, HA.e1, HA.e2, HG]) W16q14q18q15q20q
      · skip
        refine op_call2 (d := 36) (s := 34) (x := 35) rfl rfl (w_some (j := 11) (t := 27) rfl rfl (by simp [ev_same, ev_ne, sz_put, HA.sz, HA.e0, HA.e1, HA.e2, HG])) rfl (fun _ _ => by go_simp) (by simp [ev_same, ev_ne, sz_put, HA.sz, HA.e0, HA.e1, HA.e2, HG]) (by simp [ev_same, ev_ne, sz_put, HA.sz, HA.e0, HA.e1, HA.e2, HG]) (HR _ _ O16q14q18q) (fun e w16q14q18q20q he => ?_)
        obtain ⟨A2, c2, rfl, hy16q14q18q20q, hg16q14q18q20q⟩ := puts_z he
        refine ⟨_, rfl, ?_⟩
        have W16q14q18q20q := WB.row (base := 0) W16q14q18q O16q14q18q hg16q14q18q20q
        have Z16q14q18q20q := (R16q14q18q.row hL hg16q14q18q20q (.inl rfl)).z
        refine all_ (rs := [15, 21]) (by kernel_rfl) (by simp) (fun i hi => ?_)
        simp only [List.mem_cons, List.not_mem_nil, or_false] at hi
        rcases hi with rfl | rfl
        · skip
          have hc16q14q18q20q15q := Z16q14q18q20q.conv c1
          rw [← hS] at hc16q14q18q20q15q
          refine op_conv (d := 31) (s := 30) rfl rfl (w_some (j := 11) (t := 27) rfl rfl (by simp [ev_same, ev_ne, sz_put, HA.sz, HA.e0, HA.e1, HA.e2, HG])) rfl (by simp [ev_same, ev_ne, sz_put, HA.sz, HA.e0, HA.e1, HA.e2, HG]) hc16q14q18q20q15q ?_
          refine all_ (rs := [21]) (by kernel_rfl) (by simp) (fun i hi => ?_)
          obtain rfl := List.mem_singleton.1 hi
          have hc16q14q18q20q15q21q := hy16q14q18q20q.conv c2
          rw [← hS] at hc16q14q18q20q15q21q
          refine op_conv (d := 37) (s := 36) rfl rfl (w_some (j := 11) (t := 27) rfl rfl (by simp [ev_same, ev_ne, sz_put, HA.sz, HA.e0, HA.e1, HA.e2, HG])) rfl (by simp [ev_same, ev_ne, sz_put, HA.sz, HA.e0, HA.e1, HA.e2, HG]) hc16q14q18q20q15q21q ?_
          refine take_ (i := 22) (d := 38) (v := (.bool true)) rfl rfl (by kernel_rfl) (by kernel_rfl) (by kernel_rfl) hQ (y_eql (s := 31) (x := 37) (S := S) rfl (w_some (j := 11) (t := 27) rfl rfl (by simp [ev_same, ev_ne, sz_put, HA.sz, HA.e0, HA.e1, HA.e2, HG])) (by simp [ev_same, ev_ne, sz_put, HA.sz, HA.e0, HA.e1, HA.e2, HG]) (by simp [ev_same, ev_ne, sz_put, HA.sz, HA.e0, HA.e1, HA.e2, HG])) ?_
          refine take_ (i := 23) (d := 39) (v := (.bool true)) rfl rfl (by kernel_rfl) (by kernel_rfl) (by kernel_rfl) hQ (y_pick (s := 27) (x := 38) rfl (w_none rfl) (by simp [ev_same, ev_ne, sz_put, HA.sz, HA.e0, HA.e1, HA.e2, HG]) (by simp [ev_same, ev_ne, sz_put, HA.sz, HA.e0, HA.e1, HA.e2, HG])) ?_
          refine take_ (i := 24) (d := 40) (v := (.bool true)) rfl rfl (by kernel_rfl) (by kernel_rfl) (by kernel_rfl) hQ (y_move (s := 39) rfl (w_none rfl) (by simp [ev_same, ev_ne, sz_put, HA.sz, HA.e0, HA.e1, HA.e2, HG])) ?_
          exact hK _ _ ⟨by simp only [sz_put]; exact HA.sz, by simp only [df_put]; exact HA.df, by simp [ev_same, ev_ne, sz_put, HA.sz, HA.e0, HA.e1, HA.e2, HG], by simp [ev_same, ev_ne, sz_put, HA.sz, HA.e0, HA.e1, HA.e2, HG], by simp [ev_same, ev_ne, sz_put, HA.sz, HA.e0, HA.e1, HA.e2, HG]⟩ (by simp [ev_same, ev_ne, sz_put, HA.sz, HA.e0, HA.e1, HA.e2, HG]) W16q14q18q20q
        · skip
          have hc16q14q18q20q21q := hy16q14q18q20q.conv c2
          rw [← hS] at hc16q14q18q20q21q
          refine op_conv (d := 37) (s := 36) rfl rfl (w_some (j := 11) (t := 27) rfl rfl (by simp [ev_same, ev_ne, sz_put, HA.sz, HA.e0, HA.e1, HA.e2, HG])) rfl (by simp [ev_same, ev_ne, sz_put, HA.sz, HA.e0, HA.e1, HA.e2, HG]) hc16q14q18q20q21q ?_
          refine all_ (rs := [15]) (by kernel_rfl) (by simp) (fun i hi => ?_)
          obtain rfl := List.mem_singleton.1 hi
          have hc16q14q18q20q21q15q := Z16q14q18q20q.conv c1
          rw [← hS] at hc16q14q18q20q21q15q
          refine op_conv (d := 31) (s := 30) rfl rfl (w_some (j := 11) (t := 27) rfl rfl (by simp [ev_same, ev_ne, sz_put, HA.sz, HA.e0, HA.e1, HA.e2, HG])) rfl (by simp [ev_same, ev_ne, sz_put, HA.sz, HA.e0, HA.e1, HA.e2, HG]) hc16q14q18q20q21q15q ?_
          refine take_ (i := 22) (d := 38) (v := (.bool true)) rfl rfl (by kernel_rfl) (by kernel_rfl) (by kernel_rfl) hQ (y_eql (s := 31) (x := 37) (S := S) rfl (w_some (j := 11) (t := 27) rfl rfl (by simp [ev_same, ev_ne, sz_put, HA.sz, HA.e0, HA.e1, HA.e2, HG])) (by simp [ev_same, ev_ne, sz_put, HA.sz, HA.e0, HA.e1, HA.e2, HG]) (by simp [ev_same, ev_ne, sz_put, HA.sz, HA.e0, HA.e1, HA.e2, HG])) ?_
          refine take_ (i := 23) (d := 39) (v := (.bool true)) rfl rfl (by kernel_rfl) (by kernel_rfl) (by kernel_rfl) hQ (y_pick (s := 27) (x := 38) rfl (w_none rfl) (by simp [ev_same, ev_ne, sz_put, HA.sz, HA.e0, HA.e1, HA.e2, HG]) (by simp [ev_same, ev_ne, sz_put, HA.sz, HA.e0, HA.e1, HA.e2, HG])) ?_
          refine take_ (i := 24) (d := 40) (v := (.bool true)) rfl rfl (by kernel_rfl) (by kernel_rfl) (by kernel_rfl) hQ (y_move (s := 39) rfl (w_none rfl) (by simp [ev_same, ev_ne, sz_put, HA.sz, HA.e0, HA.e1, HA.e2, HG])) ?_
          exact hK _ _ ⟨by simp only [sz_put]; exact HA.sz, by simp only [df_put]; exact HA.df, by simp [ev_same, ev_ne, sz_put, HA.sz, HA.e0, HA.e1, HA.e2, HG], by simp [ev_same, ev_ne, sz_put, HA.sz, HA.e0, HA.e1, HA.e2, HG], by simp [ev_same, ev_ne, sz_put, HA.sz, HA.e0, HA.e1, HA.e2, HG]⟩ (by simp [ev_same, ev_ne, sz_put, HA.sz, HA.e0, HA.e1, HA.e2, HG]) W16q14q18q20q
end Go.Proofs.Yteomdnmkcmgeaaa.Rg
