/-
  The statement's region, a part of it: whatever order its operations come in, over a frame that is not written out.
-/
import Derived.Test.YteomdnmkcmgeaaaRh
set_option linter.unusedVariables false
set_option linter.unusedSimpArgs false
namespace Go.Proofs.Yteomdnmkcmgeaaa.Rg
open Go.RowKit Go.Proofs.Yteomdnmkcmgeaaa.Kit Go.Proofs.Yteomdnmkcmgeaaa.A Go.Proofs.Yteomdnmkcmgeaaa.B Go.Proofs.Yteomdnmkcmgeaaa.C Go.Proofs.Yteomdnmkcmgeaaa.R

set_option maxHeartbeats 8000000 in
theorem part1 {ops : Array Oper} {Q : Exit → Act → World → Prop} (hops : code3 = .region 3 ops true) (hQ : ∀ c (b : Act) (d : Nat) v w, Q (.panic c) (b.put (some d) v) w → Q (.panic c) b w)
    {A : Option Addr} {n cp : Nat} {b L : List UInt8} {S : ByteArray} {v1 v2 : Value} {w wa : World} {a : Act} {listed : Array Bool} (hL : 0 < L.length) (hS : S = ⟨L.toArray⟩) (hlisted : listed = #[false, false, false, false, false, false, false, false, false, false, false, false, false, false, false, false, false, false, false, false, false, false, false, false, false, false, false, false, false, false, false, false, false, false, false, false, false, false, false, false, false]) (HA : SA (.slice A n cp) v1 v2 a) (HG : True) (hW : WB w wa A n b) (hn : n ≤ 600)
    (HP : ∀ wx, WB w wx A n b → Calls Try.prog 9 #[.slice A n cp, v1] wx (PPost wx L)) (HR : ∀ wx v, wx.ownsRow w.heap.size 5 1 v n (by_ b) → Calls Try.prog 10 #[v, v1] wx (Puts wx v L))
    (hK : ∀ a' w', SA (.slice A n cp) v1 v2 a' → a'.eval (.tmp 27) = .bool true → WB w w' A n b → wpAny Try.prog .any ops Q 29 #[true, true, true, true, true, true, true, true, true, true, true, true, false, false, false, false, false, false, false, false, false, false, false, false, false, false, false, false, false, false, false, false, false, false, false, false, false, false, false, false, false] a' w') :
    wpAny Try.prog .any ops Q 41 listed a wa := by
  subst hlisted
  have hops' := hops
  unfold code3 at hops'
  conv at hops' => lhs; whnf
  injection hops' with _ hops'
  subst hops'
  clear hops
  refine take_ (i := 0) (d := 16) (v := (.slice A n cp)) rfl rfl (by kernel_rfl) (by kernel_rfl) (by kernel_rfl) hQ (y_move (s := 0) rfl (w_none rfl) (by simp [ev_same, ev_ne, sz_put, HA.sz, HA.e0, HA.e1, HA.e2, HG])) ?_
  refine take_ (i := 1) (d := 17) (v := v1) rfl rfl (by kernel_rfl) (by kernel_rfl) (by kernel_rfl) hQ (y_move (s := 1) rfl (w_none rfl) (by simp [ev_same, ev_ne, sz_put, HA.sz, HA.e0, HA.e1, HA.e2, HG])) ?_
  refine take_ (i := 5) (d := 21) (v := (.slice A n cp)) rfl rfl (by kernel_rfl) (by kernel_rfl) (by kernel_rfl) hQ (y_move (s := 0) rfl (w_none rfl) (by simp [ev_same, ev_ne, sz_put, HA.sz, HA.e0, HA.e1, HA.e2, HG])) ?_
  refine take_ (i := 7) (d := 23) (v := v1) rfl rfl (by kernel_rfl) (by kernel_rfl) (by kernel_rfl) hQ (y_move (s := 1) rfl (w_none rfl) (by simp [ev_same, ev_ne, sz_put, HA.sz, HA.e0, HA.e1, HA.e2, HG])) ?_
  refine all_ (rs := [2, 4]) (by kernel_rfl) (by simp) (fun i hi => ?_)
  simp only [List.mem_cons, List.not_mem_nil, or_false] at hi
  rcases hi with rfl | rfl
  · skip
    refine op_call2 (d := 18) (s := 16) (x := 17) rfl rfl (w_none rfl) rfl (fun _ _ => by go_simp) (by simp [ev_same, ev_ne, sz_put, HA.sz, HA.e0, HA.e1, HA.e2, HG]) (by simp [ev_same, ev_ne, sz_put, HA.sz, HA.e0, HA.e1, HA.e2, HG]) (HP _ hW) (fun e w2q he => ?_)
    obtain ⟨A1, c1, rfl, hz2q, hb2q, hne2q⟩ := he
    refine ⟨_, rfl, ?_⟩
    have W2q := hW.below hb2q
    refine all_ (rs := [3, 4]) (by kernel_rfl) (by simp) (fun i hi => ?_)
    simp only [List.mem_cons, List.not_mem_nil, or_false] at hi
    rcases hi with rfl | rfl
    · skip
      have hc2q3q := hz2q.conv c1
      rw [← hS] at hc2q3q
      refine op_conv (d := 19) (s := 18) rfl rfl (w_none rfl) rfl (by simp [ev_same, ev_ne, sz_put, HA.sz, HA.e0, HA.e1, HA.e2, HG]) hc2q3q ?_
      refine all_ (rs := [4]) (by kernel_rfl) (by simp) (fun i hi => ?_)
      obtain rfl := List.mem_singleton.1 hi
      refine op_build (d := 20) rfl rfl (w_none rfl) rfl ?_
      have W2q3q4q := W2q.alloc (.cells #[] 5)
      have O2q3q4q := own_none w2q W2q.bel.size
      have z2q3q4q := (hz2q.alloc (Nat.le_refl _) (.cells #[] 5)).more (B' := (w2q.alloc (.cells #[] 5)).heap.size) (by simp)
      have R2q3q4q : PR (w2q.alloc (.cells #[] 5)) A1 L.length L (.slice (some ⟨w2q.heap.size, 0, none⟩) 0 0) := ⟨z2q3q4q, fun ad e he => by obtain ⟨ad', e', hlt, _⟩ := hz2q.2 hL; rw [e] at e'; injection e' with e'; subst e'; injection he with he; have he : w2q.heap.size = ad.block := he; omega⟩
      refine all_ (rs := [6]) (by kernel_rfl) (by simp) (fun i hi => ?_)
      obtain rfl := List.mem_singleton.1 hi
      obtain ⟨v2q3q4q6q, w2q3q4q6q, hr2q3q4q6q, ho2q3q4q6q, hg2q3q4q6q, hat2q3q4q6q⟩ := run_by (c := cp) 22 O2q3q4q W2q3q4q.z (by omega) W2q3q4q.bel.size
      refine op_append (d := 22) (s := 20) (x := 21) rfl rfl (w_none rfl) rfl rfl (by simp [ev_same, ev_ne, sz_put, HA.sz, HA.e0, HA.e1, HA.e2, HG]) (by simp [ev_same, ev_ne, sz_put, HA.sz, HA.e0, HA.e1, HA.e2, HG]) hr2q3q4q6q ?_
      have W2q3q4q6q := WB.row (base := 0) W2q3q4q O2q3q4q hg2q3q4q6q
      have O2q3q4q6q : w2q3q4q6q.ownsRow w.heap.size 5 1 v2q3q4q6q n (by_ b) := by rw [Nat.zero_add] at ho2q3q4q6q; exact ho2q3q4q6q
      have R2q3q4q6q := R2q3q4q.row hL hg2q3q4q6q hat2q3q4q6q
      refine all_ (rs := [8]) (by kernel_rfl) (by simp) (fun i hi => ?_)
      obtain rfl := List.mem_singleton.1 hi
      refine op_call2 (d := 24) (s := 22) (x := 23) rfl rfl (w_none rfl) rfl (fun _ _ => by go_simp) (by simp [ev_same, ev_ne, sz_put, HA.sz, HA.e0, HA.e1, HA.e2, HG]) (by simp [ev_same, ev_ne, sz_put, HA.sz, HA.e0, HA.e1, HA.e2, HG]) (HR _ _ O2q3q4q6q) (fun e w2q3q4q6q8q he => ?_)
      obtain ⟨A2, c2, rfl, hy2q3q4q6q8q, hg2q3q4q6q8q⟩ := puts_z he
      refine ⟨_, rfl, ?_⟩
      have W2q3q4q6q8q := WB.row (base := 0) W2q3q4q6q O2q3q4q6q hg2q3q4q6q8q
      have Z2q3q4q6q8q := (R2q3q4q6q.row hL hg2q3q4q6q8q (.inl rfl)).z
      refine all_ (rs := [9]) (by kernel_rfl) (by simp) (fun i hi => ?_)
      obtain rfl := List.mem_singleton.1 hi
      have hc2q3q4q6q8q9q := hy2q3q4q6q8q.conv c2
      rw [← hS] at hc2q3q4q6q8q9q
      refine op_conv (d := 25) (s := 24) rfl rfl (w_none rfl) rfl (by simp [ev_same, ev_ne, sz_put, HA.sz, HA.e0, HA.e1, HA.e2, HG]) hc2q3q4q6q8q9q ?_
      refine take_ (i := 10) (d := 26) (v := (.bool true)) rfl rfl (by kernel_rfl) (by kernel_rfl) (by kernel_rfl) hQ (y_eql (s := 19) (x := 25) (S := S) rfl (w_none rfl) (by simp [ev_same, ev_ne, sz_put, HA.sz, HA.e0, HA.e1, HA.e2, HG]) (by simp [ev_same, ev_ne, sz_put, HA.sz, HA.e0, HA.e1, HA.e2, HG])) ?_
      refine take_ (i := 11) (d := 27) (v := (.bool true)) rfl rfl (by kernel_rfl) (by kernel_rfl) (by kernel_rfl) hQ (y_move (s := 26) rfl (w_none rfl) (by simp [ev_same, ev_ne, sz_put, HA.sz, HA.e0, HA.e1, HA.e2, HG])) ?_
      exact hK _ _ ⟨by simp only [sz_put]; exact HA.sz, by simp only [df_put]; exact HA.df, by simp [ev_same, ev_ne, sz_put, HA.sz, HA.e0, HA.e1, HA.e2, HG], by simp [ev_same, ev_ne, sz_put, HA.sz, HA.e0, HA.e1, HA.e2, HG], by simp [ev_same, ev_ne, sz_put, HA.sz, HA.e0, HA.e1, HA.e2, HG]⟩ (by simp [ev_same, ev_ne, sz_put, HA.sz, HA.e0, HA.e1, HA.e2, HG]) W2q3q4q6q8q
    · skip
      refine op_build (d := 20) rfl rfl (w_none rfl) rfl ?_
      have W2q4q := W2q.alloc (.cells #[] 5)
      have O2q4q := own_none w2q W2q.bel.size
      have z2q4q := (hz2q.alloc (Nat.le_refl _) (.cells #[] 5)).more (B' := (w2q.alloc (.cells #[] 5)).heap.size) (by simp)
      have R2q4q : PR (w2q.alloc (.cells #[] 5)) A1 L.length L (.slice (some ⟨w2q.heap.size, 0, none⟩) 0 0) := ⟨z2q4q, fun ad e he => by obtain ⟨ad', e', hlt, _⟩ := hz2q.2 hL; rw [e] at e'; injection e' with e'; subst e'; injection he with he; have he : w2q.heap.size = ad.block := he; omega⟩
      refine all_ (rs := [3, 6]) (by kernel_rfl) (by simp) (fun i hi => ?_)
      simp only [List.mem_cons, List.not_mem_nil, or_false] at hi
      rcases hi with rfl | rfl
      · skip
        have hc2q4q3q := z2q4q.conv c1
        rw [← hS] at hc2q4q3q
        refine op_conv (d := 19) (s := 18) rfl rfl (w_none rfl) rfl (by simp [ev_same, ev_ne, sz_put, HA.sz, HA.e0, HA.e1, HA.e2, HG]) hc2q4q3q ?_
        refine all_ (rs := [6]) (by kernel_rfl) (by simp) (fun i hi => ?_)
        obtain rfl := List.mem_singleton.1 hi
        obtain ⟨v2q4q3q6q, w2q4q3q6q, hr2q4q3q6q, ho2q4q3q6q, hg2q4q3q6q, hat2q4q3q6q⟩ := run_by (c := cp) 22 O2q4q W2q4q.z (by omega) W2q4q.bel.size
        refine op_append (d := 22) (s := 20) (x := 21) rfl rfl (w_none rfl) rfl rfl (by simp [ev_same, ev_ne, sz_put, HA.sz, HA.e0, HA.e1, HA.e2, HG]) (by simp [ev_same, ev_ne, sz_put, HA.sz, HA.e0, HA.e1, HA.e2, HG]) hr2q4q3q6q ?_
        have W2q4q3q6q := WB.row (base := 0) W2q4q O2q4q hg2q4q3q6q
        have O2q4q3q6q : w2q4q3q6q.ownsRow w.heap.size 5 1 v2q4q3q6q n (by_ b) := by rw [Nat.zero_add] at ho2q4q3q6q; exact ho2q4q3q6q
        have R2q4q3q6q := R2q4q.row hL hg2q4q3q6q hat2q4q3q6q
        refine all_ (rs := [8]) (by kernel_rfl) (by simp) (fun i hi => ?_)
        obtain rfl := List.mem_singleton.1 hi
        refine op_call2 (d := 24) (s := 22) (x := 23) rfl rfl (w_none rfl) rfl (fun _ _ => by go_simp) (by simp [ev_same, ev_ne, sz_put, HA.sz, HA.e0, HA.e1, HA.e2, HG]) (by simp [ev_same, ev_ne, sz_put, HA.sz, HA.e0, HA.e1, HA.e2, HG]) (HR _ _ O2q4q3q6q) (fun e w2q4q3q6q8q he => ?_)
        obtain ⟨A2, c2, rfl, hy2q4q3q6q8q, hg2q4q3q6q8q⟩ := puts_z he
        refine ⟨_, rfl, ?_⟩
        have W2q4q3q6q8q := WB.row (base := 0) W2q4q3q6q O2q4q3q6q hg2q4q3q6q8q
        have Z2q4q3q6q8q := (R2q4q3q6q.row hL hg2q4q3q6q8q (.inl rfl)).z
        refine all_ (rs := [9]) (by kernel_rfl) (by simp) (fun i hi => ?_)
        obtain rfl := List.mem_singleton.1 hi
        have hc2q4q3q6q8q9q := hy2q4q3q6q8q.conv c2
        rw [← hS] at hc2q4q3q6q8q9q
        refine op_conv (d := 25) (s := 24) rfl rfl (w_none rfl) rfl (by simp [ev_same, ev_ne, sz_put, HA.sz, HA.e0, HA.e1, HA.e2, HG]) hc2q4q3q6q8q9q ?_
        refine take_ (i := 10) (d := 26) (v := (.bool true)) rfl rfl (by kernel_rfl) (by kernel_rfl) (by kernel_rfl) hQ (y_eql (s := 19) (x := 25) (S := S) rfl (w_none rfl) (by simp [ev_same, ev_ne, sz_put, HA.sz, HA.e0, HA.e1, HA.e2, HG]) (by simp [ev_same, ev_ne, sz_put, HA.sz, HA.e0, HA.e1, HA.e2, HG])) ?_
        refine take_ (i := 11) (d := 27) (v := (.bool true)) rfl rfl (by kernel_rfl) (by kernel_rfl) (by kernel_rfl) hQ (y_move (s := 26) rfl (w_none rfl) (by simp [ev_same, ev_ne, sz_put, HA.sz, HA.e0, HA.e1, HA.e2, HG])) ?_
        exact hK _ _ ⟨by simp only [sz_put]; exact HA.sz, by simp only [df_put]; exact HA.df, by simp [ev_same, ev_ne, sz_put, HA.sz, HA.e0, HA.e1, HA.e2, HG], by simp [ev_same, ev_ne, sz_put, HA.sz, HA.e0, HA.e1, HA.e2, HG], by simp [ev_same, ev_ne, sz_put, HA.sz, HA.e0, HA.e1, HA.e2, HG]⟩ (by simp [ev_same, ev_ne, sz_put, HA.sz, HA.e0, HA.e1, HA.e2, HG]) W2q4q3q6q8q
      · skip
        obtain ⟨v2q4q6q, w2q4q6q, hr2q4q6q, ho2q4q6q, hg2q4q6q, hat2q4q6q⟩ := run_by (c := cp) 22 O2q4q W2q4q.z (by omega) W2q4q.bel.size
        refine op_append (d := 22) (s := 20) (x := 21) rfl rfl (w_none rfl) rfl rfl (by simp [ev_same, ev_ne, sz_put, HA.sz, HA.e0, HA.e1, HA.e2, HG]) (by simp [ev_same, ev_ne, sz_put, HA.sz, HA.e0, HA.e1, HA.e2, HG]) hr2q4q6q ?_
        have W2q4q6q := WB.row (base := 0) W2q4q O2q4q hg2q4q6q
        have O2q4q6q : w2q4q6q.ownsRow w.heap.size 5 1 v2q4q6q n (by_ b) := by rw [Nat.zero_add] at ho2q4q6q; exact ho2q4q6q
        have R2q4q6q := R2q4q.row hL hg2q4q6q hat2q4q6q
        refine all_ (rs := [3, 8]) (by kernel_rfl) (by simp) (fun i hi => ?_)
        simp only [List.mem_cons, List.not_mem_nil, or_false] at hi
        rcases hi with rfl | rfl
        · skip
          have hc2q4q6q3q := R2q4q6q.z.conv c1
          rw [← hS] at hc2q4q6q3q
          refine op_conv (d := 19) (s := 18) rfl rfl (w_none rfl) rfl (by simp [ev_same, ev_ne, sz_put, HA.sz, HA.e0, HA.e1, HA.e2, HG]) hc2q4q6q3q ?_
          refine all_ (rs := [8]) (by kernel_rfl) (by simp) (fun i hi => ?_)
          obtain rfl := List.mem_singleton.1 hi
          refine op_call2 (d := 24) (s := 22) (x := 23) rfl rfl (w_none rfl) rfl (fun _ _ => by go_simp) (by simp [ev_same, ev_ne, sz_put, HA.sz, HA.e0, HA.e1, HA.e2, HG]) (by simp [ev_same, ev_ne, sz_put, HA.sz, HA.e0, HA.e1, HA.e2, HG]) (HR _ _ O2q4q6q) (fun e w2q4q6q3q8q he => ?_)
          obtain ⟨A2, c2, rfl, hy2q4q6q3q8q, hg2q4q6q3q8q⟩ := puts_z he
          refine ⟨_, rfl, ?_⟩
          have W2q4q6q3q8q := WB.row (base := 0) W2q4q6q O2q4q6q hg2q4q6q3q8q
          have Z2q4q6q3q8q := (R2q4q6q.row hL hg2q4q6q3q8q (.inl rfl)).z
          refine all_ (rs := [9]) (by kernel_rfl) (by simp) (fun i hi => ?_)
          obtain rfl := List.mem_singleton.1 hi
          have hc2q4q6q3q8q9q := hy2q4q6q3q8q.conv c2
          rw [← hS] at hc2q4q6q3q8q9q
          refine op_conv (d := 25) (s := 24) rfl rfl (w_none rfl) rfl (by simp [ev_same, ev_ne, sz_put, HA.sz, HA.e0, HA.e1, HA.e2, HG]) hc2q4q6q3q8q9q ?_
          refine take_ (i := 10) (d := 26) (v := (.bool true)) rfl rfl (by kernel_rfl) (by kernel_rfl) (by kernel_rfl) hQ (y_eql (s := 19) (x := 25) (S := S) rfl (w_none rfl) (by simp [ev_same, ev_ne, sz_put, HA.sz, HA.e0, HA.e1, HA.e2, HG]) (by simp [ev_same, ev_ne, sz_put, HA.sz, HA.e0, HA.e1, HA.e2, HG])) ?_
          refine take_ (i := 11) (d := 27) (v := (.bool true)) rfl rfl (by kernel_rfl) (by kernel_rfl) (by kernel_rfl) hQ (y_move (s := 26) rfl (w_none rfl) (by simp [ev_same, ev_ne, sz_put, HA.sz, HA.e0, HA.e1, HA.e2, HG])) ?_
          exact hK _ _ ⟨by simp only [sz_put]; exact HA.sz, by simp only [df_put]; exact HA.df, by simp [ev_same, ev_ne, sz_put, HA.sz, HA.e0, HA.e1, HA.e2, HG], by simp [ev_same, ev_ne, sz_put, HA.sz, HA.e0, HA.e1, HA.e2, HG], by simp [ev_same, ev_ne, sz_put, HA.sz, HA.e0, HA.e1, HA.e2, HG]⟩ (by simp [ev_same, ev_ne, sz_put, HA.sz, HA.e0, HA.e1, HA.e2, HG]) W2q4q6q3q8q
        · skip
          refine op_call2 (d := 24) (s := 22) (x := 23) rfl rfl (w_none rfl) rfl (fun _ _ => by go_simp) (by simp [ev_same, ev_ne, sz_put, HA.sz, HA.e0, HA.e1, HA.e2, HG]) (by simp [ev_same, ev_ne, sz_put, HA.sz, HA.e0, HA.e1, HA.e2, HG]) (HR _ _ O2q4q6q) (fun e w2q4q6q8q he => ?_)
          obtain ⟨A2, c2, rfl, hy2q4q6q8q, hg2q4q6q8q⟩ := puts_z he
          refine ⟨_, rfl, ?_⟩
          have W2q4q6q8q := WB.row (base := 0) W2q4q6q O2q4q6q hg2q4q6q8q
          have Z2q4q6q8q := (R2q4q6q.row hL hg2q4q6q8q (.inl rfl)).z
          refine all_ (rs := [3, 9]) (by kernel_rfl) (by simp) (fun i hi => ?_)
          simp only [List.mem_cons, List.not_mem_nil, or_false] at hi
          rcases hi with rfl | rfl
          · skip
            have hc2q4q6q8q3q := Z2q4q6q8q.conv c1
            rw [← hS] at hc2q4q6q8q3q
            refine op_conv (d := 19) (s := 18) rfl rfl (w_none rfl) rfl (by simp [ev_same, ev_ne, sz_put, HA.sz, HA.e0, HA.e1, HA.e2, HG]) hc2q4q6q8q3q ?_
            refine all_ (rs := [9]) (by kernel_rfl) (by simp) (fun i hi => ?_)
            obtain rfl := List.mem_singleton.1 hi
            have hc2q4q6q8q3q9q := hy2q4q6q8q.conv c2
            rw [← hS] at hc2q4q6q8q3q9q
            refine op_conv (d := 25) (s := 24) rfl rfl (w_none rfl) rfl (by simp [ev_same, ev_ne, sz_put, HA.sz, HA.e0, HA.e1, HA.e2, HG]) hc2q4q6q8q3q9q ?_
            refine take_ (i := 10) (d := 26) (v := (.bool true)) rfl rfl (by kernel_rfl) (by kernel_rfl) (by kernel_rfl) hQ (y_eql (s := 19) (x := 25) (S := S) rfl (w_none rfl) (by simp [ev_same, ev_ne, sz_put, HA.sz, HA.e0, HA.e1, HA.e2, HG]) (by simp [ev_same, ev_ne, sz_put, HA.sz, HA.e0, HA.e1, HA.e2, HG])) ?_
            refine take_ (i := 11) (d := 27) (v := (.bool true)) rfl rfl (by kernel_rfl) (by kernel_rfl) (by kernel_rfl) hQ (y_move (s := 26) rfl (w_none rfl) (by simp [ev_same, ev_ne, sz_put, HA.sz, HA.e0, HA.e1, HA.e2, HG])) ?_
            exact hK _ _ ⟨by simp only [sz_put]; exact HA.sz, by simp only [df_put]; exact HA.df, by simp [ev_same, ev_ne, sz_put, HA.sz, HA.e0, HA.e1, HA.e2, HG], by simp [ev_same, ev_ne, sz_put, HA.sz, HA.e0, HA.e1, HA.e2, HG], by simp [ev_same, ev_ne, sz_put, HA.sz, HA.e0, HA.e1, HA.e2, HG]⟩ (by simp [ev_same, ev_ne, sz_put, HA.sz, HA.e0, HA.e1, HA.e2, HG]) W2q4q6q8q
          · skip
            have hc2q4q6q8q9q := hy2q4q6q8q.conv c2
            rw [← hS] at hc2q4q6q8q9q
            refine op_conv (d := 25) (s := 24) rfl rfl (w_none rfl) rfl (by simp [ev_same, ev_ne, sz_put, HA.sz, HA.e0, HA.e1, HA.e2, HG]) hc2q4q6q8q9q ?_
            refine all_ (rs := [3]) (by kernel_rfl) (by simp) (fun i hi => ?_)
            obtain rfl := List.mem_singleton.1 hi
            have hc2q4q6q8q9q3q := Z2q4q6q8q.conv c1
            rw [← hS] at hc2q4q6q8q9q3q
            refine op_conv (d := 19) (s := 18) rfl rfl (w_none rfl) rfl (by simp [ev_same, ev_ne, sz_put, HA.sz, HA.e0, HA.e1, HA.e2, HG]) hc2q4q6q8q9q3q ?_
            refine take_ (i := 10) (d := 26) (v := (.bool true)) rfl rfl (by kernel_rfl) (by kernel_rfl) (by kernel_rfl) hQ (y_eql (s := 19) (x := 25) (S := S) rfl (w_none rfl) (by simp [ev_same, ev_ne, sz_put, HA.sz, HA.e0, HA.e1, HA.e2, HG]) (by simp [ev_same, ev_ne, sz_put, HA.sz, HA.e0, HA.e1, HA.e2, HG])) ?_
            refine take_ (i := 11) (d := 27) (v := (.bool true)) rfl rfl (by kernel_rfl) (by kernel_rfl) (by kernel_rfl) hQ (y_move (s := 26) rfl (w_none rfl) (by simp [ev_same, ev_ne, sz_put, HA.sz, HA.e0, HA.e1, HA.e2, HG])) ?_
            exact hK _ _ ⟨by simp only [sz_put]; exact HA.sz, by simp only [df_put]; exact HA.df, by simp [ev_same, ev_ne, sz_put, HA.sz, HA.e0, HA.e1, HA.e2, HG], by simp [ev_same, ev_ne, sz_put, HA.sz, HA.e0, HA.e1, HA.e2, HG], by simp [ev_same, ev_ne, sz_put, HA.sz, HA.e0, HA.e1, HA.e2, HG]⟩ (by simp [ev_same, ev_ne, sz_put, HA.sz, HA.e0, HA.e1, HA.e2, HG]) W2q4q6q8q
  · skip
    refine op_build (d := 20) rfl rfl (w_none rfl) rfl ?_
    have W4q := hW.alloc (.cells #[] 5)
    have O4q := own_none wa hW.bel.size
    refine all_ (rs := [2]) (by kernel_rfl) (by simp) (fun i hi => ?_)
    obtain rfl := List.mem_singleton.1 hi
    refine op_call2 (d := 18) (s := 16) (x := 17) rfl rfl (w_none rfl) rfl (fun _ _ => by go_simp) (by simp [ev_same, ev_ne, sz_put, HA.sz, HA.e0, HA.e1, HA.e2, HG]) (by simp [ev_same, ev_ne, sz_put, HA.sz, HA.e0, HA.e1, HA.e2, HG]) (HP _ W4q) (fun e w4q2q he => ?_)
    obtain ⟨A1, c1, rfl, hz4q2q, hb4q2q, hne4q2q⟩ := he
    refine ⟨_, rfl, ?_⟩
    have W4q2q := W4q.below hb4q2q
    have O4q2q := O4q.kept (grown_below hb4q2q none) (.inr (by simp [Value.ownBlock]))
    have R4q2q : PR w4q2q A1 L.length L (.slice (some ⟨wa.heap.size, 0, none⟩) 0 0) := ⟨hz4q2q, fun ad e he => by have h1 := (O4q.lt _ he).2; have h2 := hne4q2q ad e hL; omega⟩
    refine all_ (rs := [3, 6]) (by kernel_rfl) (by simp) (fun i hi => ?_)
    simp only [List.mem_cons, List.not_mem_nil, or_false] at hi
    rcases hi with rfl | rfl
    · skip
      have hc4q2q3q := hz4q2q.conv c1
      rw [← hS] at hc4q2q3q
      refine op_conv (d := 19) (s := 18) rfl rfl (w_none rfl) rfl (by simp [ev_same, ev_ne, sz_put, HA.sz, HA.e0, HA.e1, HA.e2, HG]) hc4q2q3q ?_
      refine all_ (rs := [6]) (by kernel_rfl) (by simp) (fun i hi => ?_)
      obtain rfl := List.mem_singleton.1 hi
      obtain ⟨v4q2q3q6q, w4q2q3q6q, hr4q2q3q6q, ho4q2q3q6q, hg4q2q3q6q, hat4q2q3q6q⟩ := run_by (c := cp) 22 O4q2q W4q2q.z (by omega) W4q2q.bel.size
      refine op_append (d := 22) (s := 20) (x := 21) rfl rfl (w_none rfl) rfl rfl (by simp [ev_same, ev_ne, sz_put, HA.sz, HA.e0, HA.e1, HA.e2, HG]) (by simp [ev_same, ev_ne, sz_put, HA.sz, HA.e0, HA.e1, HA.e2, HG]) hr4q2q3q6q ?_
      have W4q2q3q6q := WB.row (base := 0) W4q2q O4q2q hg4q2q3q6q
      have O4q2q3q6q : w4q2q3q6q.ownsRow w.heap.size 5 1 v4q2q3q6q n (by_ b) := by rw [Nat.zero_add] at ho4q2q3q6q; exact ho4q2q3q6q
      have R4q2q3q6q := R4q2q.row hL hg4q2q3q6q hat4q2q3q6q
      refine all_ (rs := [8]) (by kernel_rfl) (by simp) (fun i hi => ?_)
      obtain rfl := List.mem_singleton.1 hi
      refine op_call2 (d := 24) (s := 22) (x := 23) rfl rfl (w_none rfl) rfl (fun _ _ => by go_simp) (by simp [ev_same, ev_ne, sz_put, HA.sz, HA.e0, HA.e1, HA.e2, HG]) (by simp [ev_same, ev_ne, sz_put, HA.sz, HA.e0, HA.e1, HA.e2, HG]) (HR _ _ O4q2q3q6q) (fun e w4q2q3q6q8q he => ?_)
      obtain ⟨A2, c2, rfl, hy4q2q3q6q8q, hg4q2q3q6q8q⟩ := puts_z he
      refine ⟨_, rfl, ?_⟩
      have W4q2q3q6q8q := WB.row (base := 0) W4q2q3q6q O4q2q3q6q hg4q2q3q6q8q
      have Z4q2q3q6q8q := (R4q2q3q6q.row hL hg4q2q3q6q8q (.inl rfl)).z
      refine all_ (rs := [9]) (by kernel_rfl) (by simp) (fun i hi => ?_)
      obtain rfl := List.mem_singleton.1 hi
      have hc4q2q3q6q8q9q := hy4q2q3q6q8q.conv c2
      rw [← hS] at hc4q2q3q6q8q9q
      refine op_conv (d := 25) (s := 24) rfl rfl (w_none rfl) rfl (by simp [ev_same, ev_ne, sz_put, HA.sz, HA.e0, HA.e1, HA.e2, HG]) hc4q2q3q6q8q9q ?_
      refine take_ (i := 10) (d := 26) (v := (.bool true)) rfl rfl (by kernel_rfl) (by kernel_rfl) (by kernel_rfl) hQ (y_eql (s := 19) (x := 25) (S := S) rfl (w_none rfl) (by simp [ev_same, ev_ne, sz_put, HA.sz, HA.e0, HA.e1, HA.e2, HG]) (by simp [ev_same, ev_ne, sz_put, HA.sz, HA.e0, HA.e1, HA.e2, HG])) ?_
      refine take_ (i := 11) (d := 27) (v := (.bool true)) rfl rfl (by kernel_rfl) (by kernel_rfl) (by kernel_rfl) hQ (y_move (s := 26) rfl (w_none rfl) (by simp [ev_same, ev_ne, sz_put, HA.sz, HA.e0, HA.e1, HA.e2, HG])) ?_
      exact hK _ _ ⟨by simp only [sz_put]; exact HA.sz, by simp only [df_put]; exact HA.df, by simp [ev_same, ev_ne, sz_put, HA.sz, HA.e0, HA.e1, HA.e2, HG], by simp [ev_same, ev_ne, sz_put, HA.sz, HA.e0, HA.e1, HA.e2, HG], by simp [ev_same, ev_ne, sz_put, HA.sz, HA.e0, HA.e1, HA.e2, HG]⟩ (by simp [ev_same, ev_ne, sz_put, HA.sz, HA.e0, HA.e1, HA.e2, HG]) W4q2q3q6q8q
    · skip
      obtain ⟨v4q2q6q, w4q2q6q, hr4q2q6q, ho4q2q6q, hg4q2q6q, hat4q2q6q⟩ := run_by (c := cp) 22 O4q2q W4q2q.z (by omega) W4q2q.bel.size
      refine op_append (d := 22) (s := 20) (x := 21) rfl rfl (w_none rfl) rfl rfl (by simp [ev_same, ev_ne, sz_put, HA.sz, HA.e0, HA.e1, HA.e2, HG]) (by simp [ev_same, ev_ne, sz_put, HA.sz, HA.e0, HA.e1, HA.e2, HG]) hr4q2q6q ?_
      have W4q2q6q := WB.row (base := 0) W4q2q O4q2q hg4q2q6q
      have O4q2q6q : w4q2q6q.ownsRow w.heap.size 5 1 v4q2q6q n (by_ b) := by rw [Nat.zero_add] at ho4q2q6q; exact ho4q2q6q
      have R4q2q6q := R4q2q.row hL hg4q2q6q hat4q2q6q
      refine all_ (rs := [3, 8]) (by kernel_rfl) (by simp) (fun i hi => ?_)
      simp only [List.mem_cons, List.not_mem_nil, or_false] at hi
      rcases hi with rfl | rfl
      · skip
        have hc4q2q6q3q := R4q2q6q.z.conv c1
        rw [← hS] at hc4q2q6q3q
        refine op_conv (d := 19) (s := 18) rfl rfl (w_none rfl) rfl (by simp [ev_same, ev_ne, sz_put, HA.sz, HA.e0, HA.e1, HA.e2, HG]) hc4q2q6q3q ?_
        refine all_ (rs := [8]) (by kernel_rfl) (by simp) (fun i hi => ?_)
        obtain rfl := List.mem_singleton.1 hi
        refine op_call2 (d := 24) (s := 22) (x := 23) rfl rfl (w_none rfl) rfl (fun _ _ => by go_simp) (by simp [ev_same, ev_ne, sz_put, HA.sz, HA.e0, HA.e1, HA.e2, HG]) (by simp [ev_same, ev_ne, sz_put, HA.sz, HA.e0, HA.e1, HA.e2, HG]) (HR _ _ O4q2q6q) (fun e w4q2q6q3q8q he => ?_)
        obtain ⟨A2, c2, rfl, hy4q2q6q3q8q, hg4q2q6q3q8q⟩ := puts_z he
        refine ⟨_, rfl, ?_⟩
        have W4q2q6q3q8q := WB.row (base := 0) W4q2q6q O4q2q6q hg4q2q6q3q8q
        have Z4q2q6q3q8q := (R4q2q6q.row hL hg4q2q6q3q8q (.inl rfl)).z
        refine all_ (rs := [9]) (by kernel_rfl) (by simp) (fun i hi => ?_)
        obtain rfl := List.mem_singleton.1 hi
        have hc4q2q6q3q8q9q := hy4q2q6q3q8q.conv c2
        rw [← hS] at hc4q2q6q3q8q9q
        refine op_conv (d := 25) (s := 24) rfl rfl (w_none rfl) rfl (by simp [ev_same, ev_ne, sz_put, HA.sz, HA.e0, HA.e1, HA.e2, HG]) hc4q2q6q3q8q9q ?_
        refine take_ (i := 10) (d := 26) (v := (.bool true)) rfl rfl (by kernel_rfl) (by kernel_rfl) (by kernel_rfl) hQ (y_eql (s := 19) (x := 25) (S := S) rfl (w_none rfl) (by simp [ev_same, ev_ne, sz_put, HA.sz, HA.e0, HA.e1, HA.e2, HG]) (by simp [ev_same, ev_ne, sz_put, HA.sz, HA.e0, HA.e1, HA.e2, HG])) ?_
        refine take_ (i := 11) (d := 27) (v := (.bool true)) rfl rfl (by kernel_rfl) (by kernel_rfl) (by kernel_rfl) hQ (y_move (s := 26) rfl (w_none rfl) (by simp [ev_same, ev_ne, sz_put, HA.sz, HA.e0, HA.e1, HA.e2, HG])) ?_
        exact hK _ _ ⟨by simp only [sz_put]; exact HA.sz, by simp only [df_put]; exact HA.df, by simp [ev_same, ev_ne, sz_put, HA.sz, HA.e0, HA.e1, HA.e2, HG], by simp [ev_same, ev_ne, sz_put, HA.sz, HA.e0, HA.e1, HA.e2, HG], by simp [ev_same, ev_ne, sz_put, HA.sz, HA.e0, HA.e1, HA.e2, HG]⟩ (by simp [ev_same, ev_ne, sz_put, HA.sz, HA.e0, HA.e1, HA.e2, HG]) W4q2q6q3q8q
      · skip
        refine op_call2 (d := 24) (s := 22) (x := 23) rfl rfl (w_none rfl) rfl (fun _ _ => by go_simp) (by simp [ev_same, ev_ne, sz_put, HA.sz, HA.e0, HA.e1, HA.e2, HG]) (by simp [ev_same, ev_ne, sz_put, HA.sz, HA.e0, HA.e1, HA.e2, HG]) (HR _ _ O4q2q6q) (fun e w4q2q6q8q he => ?_)
        obtain ⟨A2, c2, rfl, hy4q2q6q8q, hg4q2q6q8q⟩ := puts_z he
        refine ⟨_, rfl, ?_⟩
        have W4q2q6q8q := WB.row (base := 0) W4q2q6q O4q2q6q hg4q2q6q8q
        have Z4q2q6q8q := (R4q2q6q.row hL hg4q2q6q8q (.inl rfl)).z
        refine all_ (rs := [3, 9]) (by kernel_rfl) (by simp) (fun i hi => ?_)
        simp only [List.mem_cons, List.not_mem_nil, or_false] at hi
        rcases hi with rfl | rfl
        · skip
          have hc4q2q6q8q3q := Z4q2q6q8q.conv c1
          rw [← hS] at hc4q2q6q8q3q
          refine op_conv (d := 19) (s := 18) rfl rfl (w_none rfl) rfl (by simp [ev_same, ev_ne, sz_put, HA.sz, HA.e0, HA.e1, HA.e2, HG]) hc4q2q6q8q3q ?_
          refine all_ (rs := [9]) (by kernel_rfl) (by simp) (fun i hi => ?_)
          obtain rfl := List.mem_singleton.1 hi
          have hc4q2q6q8q3q9q := hy4q2q6q8q.conv c2
          rw [← hS] at hc4q2q6q8q3q9q
          refine op_conv (d := 25) (s := 24) rfl rfl (w_none rfl) rfl (by simp [ev_same, ev_ne, sz_put, HA.sz, HA.e0, HA.e1, HA.e2, HG]) hc4q2q6q8q3q9q ?_
          refine take_ (i := 10) (d := 26) (v := (.bool true)) rfl rfl (by kernel_rfl) (by kernel_rfl) (by kernel_rfl) hQ (y_eql (s := 19) (x := 25) (S := S) rfl (w_none rfl) (by simp [ev_same, ev_ne, sz_put, HA.sz, HA.e0, HA.e1, HA.e2, HG]) (by simp [ev_same, ev_ne, sz_put, HA.sz, HA.e0, HA.e1, HA.e2, HG])) ?_
          refine take_ (i := 11) (d := 27) (v := (.bool true)) rfl rfl (by kernel_rfl) (by kernel_rfl) (by kernel_rfl) hQ (y_move (s := 26) rfl (w_none rfl) (by simp [ev_same, ev_ne, sz_put, HA.sz, HA.e0, HA.e1, HA.e2, HG])) ?_
          exact hK _ _ ⟨by simp only [sz_put]; exact HA.sz, by simp only [df_put]; exact HA.df, by simp [ev_same, ev_ne, sz_put, HA.sz, HA.e0, HA.e1, HA.e2, HG], by simp [ev_same, ev_ne, sz_put, HA.sz, HA.e0, HA.e1, HA.e2, HG], by simp [ev_same, ev_ne, sz_put, HA.sz, HA.e0, HA.e1, HA.e2, HG]⟩ (by simp [ev_same, ev_ne, sz_put, HA.sz, HA.e0, HA.e1, HA.e2, HG]) W4q2q6q8q
        · skip
          have hc4q2q6q8q9q := hy4q2q6q8q.conv c2
          rw [← hS] at hc4q2q6q8q9q
          refine op_conv (d := 25) (s := 24) rfl rfl (w_none rfl) rfl (by simp [ev_same, ev_ne, sz_put, HA.sz, HA.e0, HA.e1, HA.e2, HG]) hc4q2q6q8q9q ?_
          refine all_ (rs := [3]) (by kernel_rfl) (by simp) (fun i hi => ?_)
          obtain rfl := List.mem_singleton.1 hi
          have hc4q2q6q8q9q3q := Z4q2q6q8q.conv c1
          rw [← hS] at hc4q2q6q8q9q3q
          refine op_conv (d := 19) (s := 18) rfl rfl (w_none rfl) rfl (by simp [ev_same, ev_ne, sz_put, HA.sz, HA.e0, HA.e1, HA.e2, HG]) hc4q2q6q8q9q3q ?_
          refine take_ (i := 10) (d := 26) (v := (.bool true)) rfl rfl (by kernel_rfl) (by kernel_rfl) (by kernel_rfl) hQ (y_eql (s := 19) (x := 25) (S := S) rfl (w_none rfl) (by simp [ev_same, ev_ne, sz_put, HA.sz, HA.e0, HA.e1, HA.e2, HG]) (by simp [ev_same, ev_ne, sz_put, HA.sz, HA.e0, HA.e1, HA.e2, HG])) ?_
          refine take_ (i := 11) (d := 27) (v := (.bool true)) rfl rfl (by kernel_rfl) (by kernel_rfl) (by kernel_rfl) hQ (y_move (s := 26) rfl (w_none rfl) (by simp [ev_same, ev_ne, sz_put, HA.sz, HA.e0, HA.e1, HA.e2, HG])) ?_
          exact hK _ _ ⟨by simp only [sz_put]; exact HA.sz, by simp only [df_put]; exact HA.df, by simp [ev_same, ev_ne, sz_put, HA.sz, HA.e0, HA.e1, HA.e2, HG], by simp [ev_same, ev_ne, sz_put, HA.sz, HA.e0, HA.e1, HA.e2, HG], by simp [ev_same, ev_ne, sz_put, HA.sz, HA.e0, HA.e1, HA.e2, HG]⟩ (by simp [ev_same, ev_ne, sz_put, HA.sz, HA.e0, HA.e1, HA.e2, HG]) W4q2q6q8q

set_option maxHeartbeats 4000000 in
theorem part4 {ops : Array Oper} {Q : Exit → Act → World → Prop} (hops : code3 = .region 3 ops true) (hQ : ∀ c (b : Act) (d : Nat) v w, Q (.panic c) (b.put (some d) v) w → Q (.panic c) b w)
    {A : Option Addr} {n cp : Nat} {b : List UInt8} {v1 v2 : Value} {w wa : World} {a : Act} {listed : Array Bool} (hlisted : listed = #[true, true, true, true, true, true, true, true, true, true, true, true, true, true, true, true, true, true, true, true, true, true, true, true, true, true, true, true, true, true, true, true, true, true, true, true, true, true, false, false, false]) (HA : SA (.slice A n cp) v1 v2 a) (HG : a.eval (.tmp 53) = .bool true) (hW : WB w wa A n b)
    (hK : ∀ (a' : Act) w', a'.tmps.size = 56 → a'.defers = [] → a'.eval (.tmp 6) = .bool true → Below w.heap.size w w' → Q .normal a' w') :
    wpAny Try.prog .any ops Q 3 listed a wa := by
  subst hlisted
  have hops' := hops
  unfold code3 at hops'
  conv at hops' => lhs; whnf
  injection hops' with _ hops'
  subst hops'
  clear hops
  refine all_ (rs := [38]) (by kernel_rfl) (by simp) (fun i hi => ?_)
  obtain rfl := List.mem_singleton.1 hi
  refine op_call0 (d := 54) rfl rfl (w_some (j := 37) (t := 53) rfl rfl (by simp [ev_same, ev_ne, sz_put, HA.sz, HA.e0, HA.e1, HA.e2, HG])) rfl (fun _ _ => by go_simp) (H.awake wa) (fun e w' he => ?_)
  obtain ⟨rfl, hb⟩ := he
  refine ⟨_, rfl, ?_⟩
  refine take_ (i := 39) (d := 55) (v := (.bool true)) rfl rfl (by kernel_rfl) (by kernel_rfl) (by kernel_rfl) hQ (y_pick (s := 53) (x := 54) rfl (w_none rfl) (by simp [ev_same, ev_ne, sz_put, HA.sz, HA.e0, HA.e1, HA.e2, HG]) (by simp [ev_same, ev_ne, sz_put, HA.sz, HA.e0, HA.e1, HA.e2, HG])) ?_
  refine take_ (i := 40) (d := 6) (v := (.bool true)) rfl rfl (by kernel_rfl) (by kernel_rfl) (by kernel_rfl) hQ (y_assign (s := 55) rfl (w_none rfl) (by simp [ev_same, ev_ne, sz_put, HA.sz, HA.e0, HA.e1, HA.e2, HG])) ?_
  refine wpAny_done (by kernel_rfl) ?_ _
  exact hK _ _ (by simp only [sz_put]; exact HA.sz) (by simp only [df_put]; exact HA.df) (by simp [ev_same, ev_ne, sz_put, HA.sz, HA.e0, HA.e1, HA.e2, HG]) (hW.bel.trans (hb.mono hW.bel.size))
end Go.Proofs.Yteomdnmkcmgeaaa.Rg
