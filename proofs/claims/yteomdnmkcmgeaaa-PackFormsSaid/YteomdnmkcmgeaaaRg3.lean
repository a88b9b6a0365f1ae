/-
  The statement's region, a part of it: whatever order its operations come in, over a frame that is not written out.
-/
import Derived.Test.YteomdnmkcmgeaaaRh
set_option linter.unusedVariables false
set_option linter.unusedSimpArgs false
namespace Go.Proofs.Yteomdnmkcmgeaaa.Rg
open Go.RowKit Go.Proofs.Yteomdnmkcmgeaaa.Kit Go.Proofs.Yteomdnmkcmgeaaa.A Go.Proofs.Yteomdnmkcmgeaaa.B Go.Proofs.Yteomdnmkcmgeaaa.C Go.Proofs.Yteomdnmkcmgeaaa.R

set_option maxHeartbeats 8000000 in
theorem part3 {ops : Array Oper} {Q : Exit → Act → World → Prop} (hops : code3 = .region 3 ops true) (hQ : ∀ c (b : Act) (d : Nat) v w, Q (.panic c) (b.put (some d) v) w → Q (.panic c) b w)
    {A : Option Addr} {n cp : Nat} {b L : List UInt8} {S : ByteArray} {v1 v2 : Value} {w wa : World} {a : Act} {listed : Array Bool} (hL : 0 < L.length) (hS : S = ⟨L.toArray⟩) (hlisted : listed = #[true, true, true, true, true, true, true, true, true, true, true, true, true, true, true, true, true, true, true, true, true, true, true, true, true, false, false, false, false, false, false, false, false, false, false, false, false, false, false, false, false]) (HA : SA (.slice A n cp) v1 v2 a) (HG : a.eval (.tmp 40) = .bool true) (hW : WB w wa A n b) (hn : n ≤ 600)
    (HP : ∀ wx, WB w wx A n b → Calls Try.prog 13 #[.slice A n cp, v1] wx (PPost wx L)) (HR : ∀ wx v, wx.ownsRow w.heap.size 5 1 v n (by_ b) → Calls Try.prog 14 #[v, v1] wx (Puts wx v L))
    (hK : ∀ a' w', SA (.slice A n cp) v1 v2 a' → a'.eval (.tmp 53) = .bool true → WB w w' A n b → wpAny Try.prog .any ops Q 3 #[true, true, true, true, true, true, true, true, true, true, true, true, true, true, true, true, true, true, true, true, true, true, true, true, true, true, true, true, true, true, true, true, true, true, true, true, true, true, false, false, false] a' w') :
    wpAny Try.prog .any ops Q 16 listed a wa := by
  subst hlisted
  have hops' := hops
  unfold code3 at hops'
  conv at hops' => lhs; whnf
  injection hops' with _ hops'
  subst hops'
  clear hops
  refine take_ (i := 25) (d := 41) (v := (.slice A n cp)) rfl rfl (by kernel_rfl) (by kernel_rfl) (by kernel_rfl) hQ (y_move (s := 0) rfl (w_some (j := 24) (t := 40) rfl rfl (by simp [ev_same, ev_ne, sz_put, HA.sz, HA.e0, HA.e1, HA.e2, HG])) (by simp [ev_same, ev_ne, sz_put, HA.sz, HA.e0, HA.e1, HA.e2, HG])) ?_
  refine take_ (i := 26) (d := 42) (v := v1) rfl rfl (by kernel_rfl) (by kernel_rfl) (by kernel_rfl) hQ (y_move (s := 1) rfl (w_some (j := 24) (t := 40) rfl rfl (by simp [ev_same, ev_ne, sz_put, HA.sz, HA.e0, HA.e1, HA.e2, HG])) (by simp [ev_same, ev_ne, sz_put, HA.sz, HA.e0, HA.e1, HA.e2, HG])) ?_
  refine take_ (i := 30) (d := 46) (v := (.slice A n cp)) rfl rfl (by kernel_rfl) (by kernel_rfl) (by kernel_rfl) hQ (y_move (s := 0) rfl (w_some (j := 24) (t := 40) rfl rfl (by simp [ev_same, ev_ne, sz_put, HA.sz, HA.e0, HA.e1, HA.e2, HG])) (by simp [ev_same, ev_ne, sz_put, HA.sz, HA.e0, HA.e1, HA.e2, HG])) ?_
  refine take_ (i := 32) (d := 48) (v := v1) rfl rfl (by kernel_rfl) (by kernel_rfl) (by kernel_rfl) hQ (y_move (s := 1) rfl (w_some (j := 24) (t := 40) rfl rfl (by simp [ev_same, ev_ne, sz_put, HA.sz, HA.e0, HA.e1, HA.e2, HG])) (by simp [ev_same, ev_ne, sz_put, HA.sz, HA.e0, HA.e1, HA.e2, HG])) ?_
  refine all_ (rs := [27, 29]) (by kernel_rfl) (by simp) (fun i hi => ?_)
  simp only [List.mem_cons, List.not_mem_nil, or_false] at hi
  rcases hi with rfl | rfl
  · skip
    refine op_call2 (d := 43) (s := 41) (x := 42) rfl rfl (w_some (j := 24) (t := 40) rfl rfl (by simp [ev_same, ev_ne, sz_put, HA.sz, HA.e0, HA.e1, HA.e2, HG])) rfl (fun _ _ => by go_simp) (by simp [ev_same, ev_ne, sz_put, HA.sz, HA.e0, HA.e1, HA.e2, HG]) (by simp [ev_same, ev_ne, sz_put, HA.sz, HA.e0, HA.e1, HA.e2, HG]) (HP _ hW) (fun e w27q he => ?_)
    obtain ⟨A1, c1, rfl, hz27q, hb27q, hne27q⟩ := he
    refine ⟨_, rfl, ?_⟩
    have W27q := hW.below hb27q
    refine all_ (rs := [28, 29]) (by kernel_rfl) (by simp) (fun i hi => ?_)
    simp only [List.mem_cons, List.not_mem_nil, or_false] at hi
    rcases hi with rfl | rfl
    · skip
      have hc27q28q := hz27q.conv c1
      rw [← hS] at hc27q28q
      refine op_conv (d := 44) (s := 43) rfl rfl (w_some (j := 24) (t := 40) rfl rfl (by simp [ev_same, ev_ne, sz_put, HA.sz, HA.e0, HA.e1, HA.e2, HG])) rfl (by simp [ev_same, ev_ne, sz_put, HA.sz, HA.e0, HA.e1, HA.e2, HG]) hc27q28q ?_
      refine all_ (rs := [29]) (by kernel_rfl) (by simp) (fun i hi => ?_)
      obtain rfl := List.mem_singleton.1 hi
      refine op_build (d := 45) rfl rfl (w_some (j := 24) (t := 40) rfl rfl (by simp [ev_same, ev_ne, sz_put, HA.sz, HA.e0, HA.e1, HA.e2, HG])) rfl ?_
      have W27q28q29q := W27q.alloc (.cells #[] 5)
      have O27q28q29q := own_none w27q W27q.bel.size
      have z27q28q29q := (hz27q.alloc (Nat.le_refl _) (.cells #[] 5)).more (B' := (w27q.alloc (.cells #[] 5)).heap.size) (by simp)
      have R27q28q29q : PR (w27q.alloc (.cells #[] 5)) A1 L.length L (.slice (some ⟨w27q.heap.size, 0, none⟩) 0 0) := ⟨z27q28q29q, fun ad e he => by obtain ⟨ad', e', hlt, _⟩ := hz27q.2 hL; rw [e] at e'; injection e' with e'; subst e'; injection he with he; have he : w27q.heap.size = ad.block := he; omega⟩
      refine all_ (rs := [31]) (by kernel_rfl) (by simp) (fun i hi => ?_)
      obtain rfl := List.mem_singleton.1 hi
      obtain ⟨v27q28q29q31q, w27q28q29q31q, hr27q28q29q31q, ho27q28q29q31q, hg27q28q29q31q, hat27q28q29q31q⟩ := run_by (c := cp) 22 O27q28q29q W27q28q29q.z (by omega) W27q28q29q.bel.size
      refine op_append (d := 47) (s := 45) (x := 46) rfl rfl (w_some (j := 24) (t := 40) rfl rfl (by simp [ev_same, ev_ne, sz_put, HA.sz, HA.e0, HA.e1, HA.e2, HG])) rfl rfl (by simp [ev_same, ev_ne, sz_put, HA.sz, HA.e0, HA.e1, HA.e2, HG]) (by simp [ev_same, ev_ne, sz_put, HA.sz, HA.e0, HA.e1, HA.e2, HG]) hr27q28q29q31q ?_
      have W27q28q29q31q := WB.row (base := 0) W27q28q29q O27q28q29q hg27q28q29q31q
      have O27q28q29q31q : w27q28q29q31q.ownsRow w.heap.size 5 1 v27q28q29q31q n (by_ b) := by rw [Nat.zero_add] at ho27q28q29q31q; exact ho27q28q29q31q
      have R27q28q29q31q := R27q28q29q.row hL hg27q28q29q31q hat27q28q29q31q
      refine all_ (rs := [33]) (by kernel_rfl) (by simp) (fun i hi => ?_)
      obtain rfl := List.mem_singleton.1 hi
      refine op_call2 (d := 49) (s := 47) (x := 48) rfl rfl (w_some (j := 24) (t := 40) rfl rfl (by simp [ev_same, ev_ne, sz_put, HA.sz, HA.e0, HA.e1, HA.e2, HG])) rfl (fun _ _ => by go_simp) (by simp [ev_same, ev_ne, sz_put, HA.sz, HA.e0, HA.e1, HA.e2, HG]) (by simp [ev_same, ev_ne, sz_put, HA.sz, HA.e0, HA.e1, HA.e2, HG]) (HR _ _ O27q28q29q31q) (fun e w27q28q29q31q33q he => ?_)
      obtain ⟨A2, c2, rfl, hy27q28q29q31q33q, hg27q28q29q31q33q⟩ := puts_z he
      refine ⟨_, rfl, ?_⟩
      have W27q28q29q31q33q := WB.row (base := 0) W27q28q29q31q O27q28q29q31q hg27q28q29q31q33q
      have Z27q28q29q31q33q := (R27q28q29q31q.row hL hg27q28q29q31q33q (.inl rfl)).z
      refine all_ (rs := [34]) (by kernel_rfl) (by simp) (fun i hi => ?_)
      obtain rfl := List.mem_singleton.1 hi
      have hc27q28q29q31q33q34q := hy27q28q29q31q33q.conv c2
      rw [← hS] at hc27q28q29q31q33q34q
      refine op_conv (d := 50) (s := 49) rfl rfl (w_some (j := 24) (t := 40) rfl rfl (by simp [ev_same, ev_ne, sz_put, HA.sz, HA.e0, HA.e1, HA.e2, HG])) rfl (by simp [ev_same, ev_ne, sz_put, HA.sz, HA.e0, HA.e1, HA.e2, HG]) hc27q28q29q31q33q34q ?_
      refine take_ (i := 35) (d := 51) (v := (.bool true)) rfl rfl (by kernel_rfl) (by kernel_rfl) (by kernel_rfl) hQ (y_eql (s := 44) (x := 50) (S := S) rfl (w_some (j := 24) (t := 40) rfl rfl (by simp [ev_same, ev_ne, sz_put, HA.sz, HA.e0, HA.e1, HA.e2, HG])) (by simp [ev_same, ev_ne, sz_put, HA.sz, HA.e0, HA.e1, HA.e2, HG]) (by simp [ev_same, ev_ne, sz_put, HA.sz, HA.e0, HA.e1, HA.e2, HG])) ?_
      refine take_ (i := 36) (d := 52) (v := (.bool true)) rfl rfl (by kernel_rfl) (by kernel_rfl) (by kernel_rfl) hQ (y_pick (s := 40) (x := 51) rfl (w_none rfl) (by simp [ev_same, ev_ne, sz_put, HA.sz, HA.e0, HA.e1, HA.e2, HG]) (by simp [ev_same, ev_ne, sz_put, HA.sz, HA.e0, HA.e1, HA.e2, HG])) ?_
      refine take_ (i := 37) (d := 53) (v := (.bool true)) rfl rfl (by kernel_rfl) (by kernel_rfl) (by kernel_rfl) hQ (y_move (s := 52) rfl (w_none rfl) (by simp [ev_same, ev_ne, sz_put, HA.sz, HA.e0, HA.e1, HA.e2, HG])) ?_
      exact hK _ _ ⟨by simp only [sz_put]; exact HA.sz, by simp only [df_put]; exact HA.df, by simp [ev_same, ev_ne, sz_put, HA.sz, HA.e0, HA.e1, HA.e2, HG], by simp [ev_same, ev_ne, sz_put, HA.sz, HA.e0, HA.e1, HA.e2, HG], by simp [ev_same, ev_ne, sz_put, HA.sz, HA.e0, HA.e1, HA.e2, HG]⟩ (by simp [ev_same, ev_ne, sz_put, HA.sz, HA.e0, HA.e1, HA.e2, HG]) W27q28q29q31q33q
    · skip
      refine op_build (d := 45) rfl rfl (w_some (j := 24) (t := 40) rfl rfl (by simp [ev_same, ev_ne, sz_put, HA.sz, HA.e0, HA.e1, HA.e2, HG])) rfl ?_
      have W27q29q := W27q.alloc (.cells #[] 5)
      have O27q29q := own_none w27q W27q.bel.size
      have z27q29q := (hz27q.alloc (Nat.le_refl _) (.cells #[] 5)).more (B' := (w27q.alloc (.cells #[] 5)).heap.size) (by simp)
      have R27q29q : PR (w27q.alloc (.cells #[] 5)) A1 L.length L (.slice (some ⟨w27q.heap.size, 0, none⟩) 0 0) := ⟨z27q29q, fun ad e he => by obtain ⟨ad', e', hlt, _⟩ := hz27q.2 hL; rw [e] at e'; injection e' with e'; subst e'; injection he with he; have he : w27q.heap.size = ad.block := he; omega⟩
      refine all_ (rs := [28, 31]) (by kernel_rfl) (by simp) (fun i hi => ?_)
      simp only [List.mem_cons, List.not_mem_nil, or_false] at hi
      rcases hi with rfl | rfl
      · skip
        have hc27q29q28q := z27q29q.conv c1
        rw [← hS] at hc27q29q28q
        refine op_conv (d := 44) (s := 43) rfl rfl (w_some (j := 24) (t := 40) rfl rfl (by simp [ev_same, ev_ne, sz_put, HA.sz, HA.e0, HA.e1, HA.e2, HG])) rfl (by simp [ev_same, ev_ne, sz_put, HA.sz, HA.e0, HA.e1, HA.e2, HG]) hc27q29q28q ?_
        refine all_ (rs := [31]) (by kernel_rfl) (by simp) (fun i hi => ?_)
        obtain rfl := List.mem_singleton.1 hi
        obtain ⟨v27q29q28q31q, w27q29q28q31q, hr27q29q28q31q, ho27q29q28q31q, hg27q29q28q31q, hat27q29q28q31q⟩ := run_by (c := cp) 22 O27q29q W27q29q.z (by omega) W27q29q.bel.size
        refine op_append (d := 47) (s := 45) (x := 46) rfl rfl (w_some (j := 24) (t := 40) rfl rfl (by simp [ev_same, ev_ne, sz_put, HA.sz, HA.e0, HA.e1, HA.e2, HG])) rfl rfl (by simp [ev_same, ev_ne, sz_put, HA.sz, HA.e0, HA.e1, HA.e2, HG]) (by simp [ev_same, ev_ne, sz_put, HA.sz, HA.e0, HA.e1, HA.e2, HG]) hr27q29q28q31q ?_
        have W27q29q28q31q := WB.row (base := 0) W27q29q O27q29q hg27q29q28q31q
        have O27q29q28q31q : w27q29q28q31q.ownsRow w.heap.size 5 1 v27q29q28q31q n (by_ b) := by rw [Nat.zero_add] at ho27q29q28q31q; exact ho27q29q28q31q
        have R27q29q28q31q := R27q29q.row hL hg27q29q28q31q hat27q29q28q31q
        refine all_ (rs := [33]) (by kernel_rfl) (by simp) (fun i hi => ?_)
        obtain rfl := List.mem_singleton.1 hi
        refine op_call2 (d := 49) (s := 47) (x := 48) rfl rfl (w_some (j := 24) (t := 40) rfl rfl (by simp [ev_same, ev_ne, sz_put, HA.sz, HA.e0, HA.e1, HA.e2, HG])) rfl (fun _ _ => by go_simp) (by simp [ev_same, ev_ne, sz_put, HA.sz, HA.e0, HA.e1, HA.e2, HG]) (by simp [ev_same, ev_ne, sz_put, HA.sz, HA.e0, HA.e1, HA.e2, HG]) (HR _ _ O27q29q28q31q) (fun e w27q29q28q31q33q he => ?_)
        obtain ⟨A2, c2, rfl, hy27q29q28q31q33q, hg27q29q28q31q33q⟩ := puts_z he
        refine ⟨_, rfl, ?_⟩
        have W27q29q28q31q33q := WB.row (base := 0) W27q29q28q31q O27q29q28q31q hg27q29q28q31q33q
        have Z27q29q28q31q33q := (R27q29q28q31q.row hL hg27q29q28q31q33q (.inl rfl)).z
        refine all_ (rs := [34]) (by kernel_rfl) (by simp) (fun i hi => ?_)
        obtain rfl := List.mem_singleton.1 hi
        have hc27q29q28q31q33q34q := hy27q29q28q31q33q.conv c2
        rw [← hS] at hc27q29q28q31q33q34q
        refine op_conv (d := 50) (s := 49) rfl rfl (w_some (j := 24) (t := 40) rfl rfl (by simp [ev_same, ev_ne, sz_put, HA.sz, HA.e0, HA.e1, HA.e2, HG])) rfl (by simp [ev_same, ev_ne, sz_put, HA.sz, HA.e0, HA.e1, HA.e2, HG]) hc27q29q28q31q33q34q ?_
        refine take_ (i := 35) (d := 51) (v := (.bool true)) rfl rfl (by kernel_rfl) (by kernel_rfl) (by kernel_rfl) hQ (y_eql (s := 44) (x := 50) (S := S) rfl (w_some (j := 24) (t := 40) rfl rfl (by simp [ev_same, ev_ne, sz_put, HA.sz, HA.e0, HA.e1, HA.e2, HG])) (by simp [ev_same, ev_ne, sz_put, HA.sz, HA.e0, HA.e1, HA.e2, HG]) (by simp [ev_same, ev_ne, sz_put, HA.sz, HA.e0, HA.e1, HA.e2, HG])) ?_
        refine take_ (i := 36) (d := 52) (v := (.bool true)) rfl rfl (by kernel_rfl) (by kernel_rfl) (by kernel_rfl) hQ (y_pick (s := 40) (x := 51) rfl (w_none rfl) (by simp [ev_same, ev_ne, sz_put, HA.sz, HA.e0, HA.e1, HA.e2, HG]) (by simp [ev_same, ev_ne, sz_put, HA.sz, HA.e0, HA.e1, HA.e2, HG])) ?_
        refine take_ (i := 37) (d := 53) (v := (.bool true)) rfl rfl (by kernel_rfl) (by kernel_rfl) (by kernel_rfl) hQ (y_move (s := 52) rfl (w_none rfl) (by simp [ev_same, ev_ne, sz_put, HA.sz, HA.e0, HA.e1, HA.e2, HG])) ?_
        exact hK _ _ ⟨by simp only [sz_put]; exact HA.sz, by simp only [df_put]; exact HA.df, by simp [ev_same, ev_ne, sz_put, HA.sz, HA.e0, HA.e1, HA.e2, HG], by simp [ev_same, ev_ne, sz_put, HA.sz, HA.e0, HA.e1, HA.e2, HG], by simp [ev_same, ev_ne, sz_put, HA.sz, HA.e0, HA.e1, HA.e2, HG]⟩ (by simp [ev_same, ev_ne, sz_put, HA.sz, HA.e0, HA.e1, HA.e2, HG]) W27q29q28q31q33q
      · skip
        obtain ⟨v27q29q31q, w27q29q31q, hr27q29q31q, ho27q29q31q, hg27q29q31q, hat27q29q31q⟩ := run_by (c := cp) 22 O27q29q W27q29q.z (by omega) W27q29q.bel.size
        refine op_append (d := 47) (s := 45) (x := 46) rfl rfl (w_some (j := 24) (t := 40) rfl rfl (by simp [ev_same, ev_ne, sz_put, HA.sz, HA.e0, HA.e1, HA.e2, HG])) rfl rfl (by simp [ev_same, ev_ne, sz_put, HA.sz, HA.e0, HA.e1, HA.e2, HG]) (by simp [ev_same, ev_ne, sz_put, HA.sz, HA.e0, HA.e1, HA.e2, HG]) hr27q29q31q ?_
        have W27q29q31q := WB.row (base := 0) W27q29q O27q29q hg27q29q31q
        have O27q29q31q : w27q29q31q.ownsRow w.heap.size 5 1 v27q29q31q n (by_ b) := by rw [Nat.zero_add] at ho27q29q31q; exact ho27q29q31q
        have R27q29q31q := R27q29q.row hL hg27q29q31q hat27q29q31q
        refine all_ (rs := [28, 33]) (by kernel_rfl) (by simp) (fun i hi => ?_)
        simp only [List.mem_cons, List.not_mem_nil, or_false] at hi
        rcases hi with rfl | rfl
        · skip
          have hc27q29q31q28q := R27q29q31q.z.conv c1
          rw [← hS] at hc27q29q31q28q
          refine op_conv (d := 44) (s := 43) rfl rfl (w_some (j := 24) (t := 40) rfl rfl (by simp [ev_same, ev_ne, sz_put, HA.sz, HA.e0, HA.e1, HA.e2, HG])) rfl (by simp [ev_same, ev_ne, sz_put, HA.sz, HA.e0, HA.e1, HA.e2, HG]) hc27q29q31q28q ?_
          refine all_ (rs := [33]) (by kernel_rfl) (by simp) (fun i hi => ?_)
          obtain rfl := List.mem_singleton.1 hi
          refine op_call2 (d := 49) (s := 47) (x := 48) rfl rfl (w_some (j := 24) (t := 40) rfl rfl (by simp [ev_same, ev_ne, sz_put, HA.sz, HA.e0, HA.e1, HA.e2, HG])) rfl (fun _ _ => by go_simp) (by simp [ev_same, ev_ne, sz_put, HA.sz, HA.e0, HA.e1, HA.e2, HG]) (by simp [ev_same, ev_ne, sz_put, HA.sz, HA.e0, HA.e1, HA.e2, HG]) (HR _ _ O27q29q31q) (fun e w27q29q31q28q33q he => ?_)
          obtain ⟨A2, c2, rfl, hy27q29q31q28q33q, hg27q29q31q28q33q⟩ := puts_z he
          refine ⟨_, rfl, ?_⟩
          have W27q29q31q28q33q := WB.row (base := 0) W27q29q31q O27q29q31q hg27q29q31q28q33q
          have Z27q29q31q28q33q := (R27q29q31q.row hL hg27q29q31q28q33q (.inl rfl)).z
          refine all_ (rs := [34]) (by kernel_rfl) (by simp) (fun i hi => ?_)
          obtain rfl := List.mem_singleton.1 hi
          have hc27q29q31q28q33q34q := hy27q29q31q28q33q.conv c2
          rw [← hS] at hc27q29q31q28q33q34q
          refine op_conv (d := 50) (s := 49) rfl rfl (w_some (j := 24) (t := 40) rfl rfl (by simp [ev_same, ev_ne, sz_put, HA.sz, HA.e0, HA.e1, HA.e2, HG])) rfl (by simp [ev_same, ev_ne, sz_put, HA.sz, HA.e0, HA.e1, HA.e2, HG]) hc27q29q31q28q33q34q ?_
          refine take_ (i := 35) (d := 51) (v := (.bool true)) rfl rfl (by kernel_rfl) (by kernel_rfl) (by kernel_rfl) hQ (y_eql (s := 44) (x := 50) (S := S) rfl (w_some (j := 24) (t := 40) rfl rfl (by simp [ev_same, ev_ne, sz_put, HA.sz, HA.e0, HA.e1, HA.e2, HG])) (by simp [ev_same, ev_ne, sz_put, HA.sz, HA.e0, HA.e1, HA.e2, HG]) (by simp [ev_same, ev_ne, sz_put, HA.sz, HA.e0, HA.e1, HA.e2, HG])) ?_
          refine take_ (i := 36) (d := 52) (v := (.bool true)) rfl rfl (by kernel_rfl) (by kernel_rfl) (by kernel_rfl) hQ (y_pick (s := 40) (x := 51) rfl (w_none rfl) (by simp [ev_same, ev_ne, sz_put, HA.sz, HA.e0, HA.e1, HA.e2, HG]) (by simp [ev_same, ev_ne, sz_put, HA.sz, HA.e0, HA.e1, HA.e2, HG])) ?_
          refine take_ (i := 37) (d := 53) (v := (.bool true)) rfl rfl (by kernel_rfl) (by kernel_rfl) (by kernel_rfl) hQ (y_move (s := 52) rfl (w_none rfl) (by simp [ev_same, ev_ne, sz_put, HA.sz, HA.e0, HA.e1, HA.e2, HG])) ?_
          exact hK _ _ ⟨by simp only [sz_put]; exact HA.sz, by simp only [df_put]; exact HA.df, by simp [ev_same, ev_ne, sz_put, HA.sz, HA.e0, HA.e1, HA.e2, HG], by simp [ev_same, ev_ne, sz_put, HA.sz, HA.e0, HA.e1, HA.e2, HG], by simp [ev_same, ev_ne, sz_put, HA.sz, HA.e0, HA.e1, HA.e2, HG]⟩ (by simp [ev_same, ev_ne, sz_put, HA.sz, HA.e0, HA.e1, HA.e2, HG]) W27q29q31q28q33q
        · skip
          refine op_call2 (d := 49) (s := 47) (x := 48) rfl rfl (w_some (j := 24) (t := 40) rfl rfl (by simp [ev_same, ev_ne, sz_put, HA.sz, HA.e0, HA.e1, HA.e2, HG])) rfl (fun _ _ => by go_simp) (by simp [ev_same, ev_ne, sz_put, HA.sz, HA.e0, HA.e1, HA.e2, HG]) (by simp [ev_same, ev_ne, sz_put, HA.sz, HA.e0, HA.e1, HA.e2, HG]) (HR _ _ O27q29q31q) (fun e w27q29q31q33q he => ?_)
          obtain ⟨A2, c2, rfl, hy27q29q31q33q, hg27q29q31q33q⟩ := puts_z he
          refine ⟨_, rfl, ?_⟩
          have W27q29q31q33q := WB.row (base := 0) W27q29q31q O27q29q31q hg27q29q31q33q
          have Z27q29q31q33q := (R27q29q31q.row hL hg27q29q31q33q (.inl rfl)).z
          refine all_ (rs := [28, 34]) (by kernel_rfl) (by simp) (fun i hi => ?_)
          simp only [List.mem_cons, List.not_mem_nil, or_false] at hi
          rcases hi with rfl | rfl
          · skip
            have hc27q29q31q33q28q := Z27q29q31q33q.conv c1
            rw [← hS] at hc27q29q31q33q28q
            refine op_conv (d := 44) (s := 43) rfl rfl (w_some (j := 24) (t := 40) rfl rfl (by simp [ev_same, ev_ne, sz_put, HA.sz, HA.e0, HA.e1, HA.e2, HG])) rfl (by simp [ev_same, ev_ne, sz_put, HA.sz, HA.e0, HA.e1, HA.e2, HG]) hc27q29q31q33q28q ?_
            refine all_ (rs := [34]) (by kernel_rfl) (by simp) (fun i hi => ?_)
            obtain rfl := List.mem_singleton.1 hi
            have hc27q29q31q33q28q34q := hy27q29q31q33q.conv c2
            rw [← hS] at hc27q29q31q33q28q34q
            refine op_conv (d := 50) (s := 49) rfl rfl (w_some (j := 24) (t := 40) rfl rfl (by simp [ev_same, ev_ne, sz_put, HA.sz, HA.e0, HA.e1, HA.e2, HG])) rfl (by simp [ev_same, ev_ne, sz_put, HA.sz, HA.e0, HA.e1, HA.e2, HG]) hc27q29q31q33q28q34q ?_
            refine take_ (i := 35) (d := 51) (v := (.bool true)) rfl rfl (by kernel_rfl) (by kernel_rfl) (by kernel_rfl) hQ (y_eql (s := 44) (x := 50) (S := S) rfl (w_some (j := 24) (t := 40) rfl rfl (by simp [ev_same, ev_ne, sz_put, HA.sz, HA.e0, HA.e1, HA.e2, HG])) (by simp [ev_same, ev_ne, sz_put, HA.sz, HA.e0, HA.e1, HA.e2, HG]) (by simp [ev_same, ev_ne, sz_put, HA.sz, HA.e0, HA.e1, HA.e2, HG])) ?_
            refine take_ (i := 36) (d := 52) (v := (.bool true)) rfl rfl (by kernel_rfl) (by kernel_rfl) (by kernel_rfl) hQ (y_pick (s := 40) (x := 51) rfl (w_none rfl) (by simp [ev_same, ev_ne, sz_put, HA.sz, HA.e0, HA.e1, HA.e2, HG]) (by simp [ev_same, ev_ne, sz_put, HA.sz, HA.e0, HA.e1, HA.e2, HG])) ?_
            refine take_ (i := 37) (d := 53) (v := (.bool true)) rfl rfl (by kernel_rfl) (by kernel_rfl) (by kernel_rfl) hQ (y_move (s := 52) rfl (w_none rfl) (by simp [ev_same, ev_ne, sz_put, HA.sz, HA.e0, HA.e1, HA.e2, HG])) ?_
            exact hK _ _ ⟨by simp only [sz_put]; exact HA.sz, by simp only [df_put]; exact HA.df, by simp [ev_same, ev_ne, sz_put, HA.sz, HA.e0, HA.e1, HA.e2, HG], by simp [ev_same, ev_ne, sz_put, HA.sz, HA.e0, HA.e1, HA.e2, HG], by simp [ev_same, ev_ne, sz_put, HA.sz, HA.e0, HA.e1, HA.e2, HG]⟩ (by simp [ev_same, ev_ne, sz_put, HA.sz, HA.e0, HA.e1, HA.e2, HG]) W27q29q31q33q
          · skip
            have hc27q29q31q33q34q := hy27q29q31q33q.conv c2
            rw [← hS] at hc27q29q31q33q34q
            refine op_conv (d := 50) (s := 49) rfl rfl (w_some (j := 24) (t := 40) rfl rfl (by simp [ev_same, ev_ne, sz_put, HA.sz, HA.e0, HA.e1, HA.e2, HG])) rfl (by simp [ev_same, ev_ne, sz_put, HA.sz, HA.e0, HA.e1, HA.e2, HG]) hc27q29q31q33q34q ?_
            refine all_ (rs := [28]) (by kernel_rfl) (by simp) (fun i hi => ?_)
            obtain rfl := List.mem_singleton.1 hi
            have hc27q29q31q33q34q28q := Z27q29q31q33q.conv c1
            rw [← hS] at hc27q29q31q33q34q28q
            refine op_conv (d := 44) (s := 43) rfl rfl (w_some (j := 24) (t := 40) rfl rfl (by simp [ev_same, ev_ne, sz_put, HA.sz, HA.e0, HA.e1, HA.e2, HG])) rfl (by simp [ev_same, ev_ne, sz_put, HA.sz, HA.e0, HA.e1, HA.e2, HG]) hc27q29q31q33q34q28q ?_
            refine take_ (i := 35) (d := 51) (v := (.bool true)) rfl rfl (by kernel_rfl) (by kernel_rfl) (by kernel_rfl) hQ (y_eql (s := 44) (x := 50) (S := S) rfl (w_some (j := 24) (t := 40) rfl rfl (by simp [ev_same, ev_ne, sz_put, HA.sz, HA.e0, HA.e1, HA.e2, HG])) (by simp [ev_same, ev_ne, sz_put, HA.sz, HA.e0, HA.e1, HA.e2, HG]) (by simp [ev_same, ev_ne, sz_put, HA.sz, HA.e0, HA.e1, HA.e2, HG])) ?_
            refine take_ (i := 36) (d := 52) (v := (.bool true)) rfl rfl (by kernel_rfl) (by kernel_rfl) (by kernel_rfl) hQ (y_pick (s := 40) (x := 51) rfl (w_none rfl) (by simp [ev_same, ev_ne, sz_put, HA.sz, HA.e0, HA.e1, HA.e2, HG]) (by simp [ev_same, ev_ne, sz_put, HA.sz, HA.e0, HA.e1, HA.e2, HG])) ?_
            refine take_ (i := 37) (d := 53) (v := (.bool true)) rfl rfl (by kernel_rfl) (by kernel_rfl) (by kernel_rfl) hQ (y_move (s := 52) rfl (w_none rfl) (by simp [ev_same, ev_ne, sz_put, HA.sz, HA.e0, HA.e1, HA.e2, HG])) ?_
            exact hK _ _ ⟨by simp only [sz_put]; exact HA.sz, by simp only [df_put]; exact HA.df, by simp [ev_same, ev_ne, sz_put, HA.sz, HA.e0, HA.e1, HA.e2, HG], by simp [ev_same, ev_ne, sz_put, HA.sz, HA.e0, HA.e1, HA.e2, HG], by simp [ev_same, ev_ne, sz_put, HA.sz, HA.e0, HA.e1, HA.e2, HG]⟩ (by simp [ev_same, ev_ne, sz_put, HA.sz, HA.e0, HA.e1, HA.e2, HG]) W27q29q31q33q
  · skip
    refine op_build (d := 45) rfl rfl (w_some (j := 24) (t := 40) rfl rfl (by simp [ev_same, ev_ne, sz_put, HA.sz, HA.e0, HA.e1, HA.e2, HG])) rfl ?_
    have W29q := hW.alloc (.cells #[] 5)
    have O29q := own_none wa hW.bel.size
    refine all_ (rs := [27]) (by kernel_rfl) (by simp) (fun i hi => ?_)
    obtain rfl := List.mem_singleton.1 hi
    refine op_call2 (d := 43) (s := 41) (x := 42) rfl rfl (w_some (j := 24) (t := 40) rfl rfl (by simp [ev_same, ev_ne, sz_put, HA.sz, HA.e0, HA.e1, HA.e2, HG])) rfl (fun _ _ => by go_simp) (by simp [ev_same, ev_ne, sz_put, HA.sz, HA.e0, HA.e1, HA.e2, HG]) (by simp [ev_same, ev_ne, sz_put, HA.sz, HA.e0, HA.e1, HA.e2, HG]) (HP _ W29q) (fun e w29q27q he => ?_)
    obtain ⟨A1, c1, rfl, hz29q27q, hb29q27q, hne29q27q⟩ := he
    refine ⟨_, rfl, ?_⟩
    have W29q27q := W29q.below hb29q27q
    have O29q27q := O29q.kept (grown_below hb29q27q none) (.inr (by simp [Value.ownBlock]))
    have R29q27q : PR w29q27q A1 L.length L (.slice (some ⟨wa.heap.size, 0, none⟩) 0 0) := ⟨hz29q27q, fun ad e he => by have h1 := (O29q.lt _ he).2; have h2 := hne29q27q ad e hL; omega⟩
    refine all_ (rs := [28, 31]) (by kernel_rfl) (by simp) (fun i hi => ?_)
    simp only [List.mem_cons, List.not_mem_nil, or_false] at hi
    rcases hi with rfl | rfl
    · skip
      have hc29q27q28q := hz29q27q.conv c1
      rw [← hS] at hc29q27q28q
      refine op_conv (d := 44) (s := 43) rfl rfl (w_some (j := 24) (t := 40) rfl rfl (by simp [ev_same, ev_ne, sz_put, HA.sz, HA.e0, HA.e1, HA.e2, HG])) rfl (by simp [ev_same, ev_ne, sz_put, HA.sz, HA.e0, HA.e1, HA.e2, HG]) hc29q27q28q ?_
      refine all_ (rs := [31]) (by kernel_rfl) (by simp) (fun i hi => ?_)
      obtain rfl := List.mem_singleton.1 hi
      obtain ⟨v29q27q28q31q, w29q27q28q31q, hr29q27q28q31q, ho29q27q28q31q, hg29q27q28q31q, hat29q27q28q31q⟩ := run_by (c := cp) 22 O29q27q W29q27q.z (by omega) W29q27q.bel.size
      refine op_append (d := 47) (s := 45) (x := 46) rfl rfl (w_some (j := 24) (t := 40) rfl rfl (by simp [ev_same, ev_ne, sz_put, HA.sz, HA.e0, HA.e1, HA.e2, HG])) rfl rfl (by simp [ev_same, ev_ne, sz_put, HA.sz, HA.e0, HA.e1, HA.e2, HG]) (by simp [ev_same, ev_ne, sz_put, HA.sz, HA.e0, HA.e1, HA.e2, HG]) hr29q27q28q31q ?_
      have W29q27q28q31q := WB.row (base := 0) W29q27q O29q27q hg29q27q28q31q
      have O29q27q28q31q : w29q27q28q31q.ownsRow w.heap.size 5 1 v29q27q28q31q n (by_ b) := by rw [Nat.zero_add] at ho29q27q28q31q; exact ho29q27q28q31q
      have R29q27q28q31q := R29q27q.row hL hg29q27q28q31q hat29q27q28q31q
      refine all_ (rs := [33]) (by kernel_rfl) (by simp) (fun i hi => ?_)
      obtain rfl := List.mem_singleton.1 hi
      refine op_call2 (d := 49) (s := 47) (x := 48) rfl rfl (w_some (j := 24) (t := 40) rfl rfl (by simp [ev_same, ev_ne, sz_put, HA.sz, HA.e0, HA.e1, HA.e2, HG])) rfl (fun _ _ => by go_simp) (by simp [ev_same, ev_ne, sz_put, HA.sz, HA.e0, HA.e1, HA.e2, HG]) (by simp [ev_same, ev_ne, sz_put, HA.sz, HA.e0, HA.e1, HA.e2, HG]) (HR _ _ O29q27q28q31q) (fun e w29q27q28q31q33q he => ?_)
      obtain ⟨A2, c2, rfl, hy29q27q28q31q33q, hg29q27q28q31q33q⟩ := puts_z he
      refine ⟨_, rfl, ?_⟩
      have W29q27q28q31q33q := WB.row (base := 0) W29q27q28q31q O29q27q28q31q hg29q27q28q31q33q
      have Z29q27q28q31q33q := (R29q27q28q31q.row hL hg29q27q28q31q33q (.inl rfl)).z
      refine all_ (rs := [34]) (by kernel_rfl) (by simp) (fun i hi => ?_)
      obtain rfl := List.mem_singleton.1 hi
      have hc29q27q28q31q33q34q := hy29q27q28q31q33q.conv c2
      rw [← hS] at hc29q27q28q31q33q34q
      refine op_conv (d := 50) (s := 49) rfl rfl (w_some (j := 24) (t := 40) rfl rfl (by simp [ev_same, ev_ne, sz_put, HA.sz, HA.e0, HA.e1, HA.e2, HG])) rfl (by simp [ev_same, ev_ne, sz_put, HA.sz, HA.e0, HA.e1, HA.e2, HG]) hc29q27q28q31q33q34q ?_
      refine take_ (i := 35) (d := 51) (v := (.bool true)) rfl rfl (by kernel_rfl) (by kernel_rfl) (by kernel_rfl) hQ (y_eql (s := 44) (x := 50) (S := S) rfl (w_some (j := 24) (t := 40) rfl rfl (by simp [ev_same, ev_ne, sz_put, HA.sz, HA.e0, HA.e1, HA.e2, HG])) (by simp [ev_same, ev_ne, sz_put, HA.sz, HA.e0, HA.e1, HA.e2, HG]) (by simp [ev_same, ev_ne, sz_put, HA.sz, HA.e0, HA.e1, HA.e2, HG])) ?_
      refine take_ (i := 36) (d := 52) (v := (.bool true)) rfl rfl (by kernel_rfl) (by kernel_rfl) (by kernel_rfl) hQ (y_pick (s := 40) (x := 51) rfl (w_none rfl) (by simp [ev_same, ev_ne, sz_put, HA.sz, HA.e0, HA.e1, HA.e2, HG]) (by simp [ev_same, ev_ne, sz_put, HA.sz, HA.e0, HA.e1, HA.e2, HG])) ?_
      refine take_ (i := 37) (d := 53) (v := (.bool true)) rfl rfl (by kernel_rfl) (by kernel_rfl) (by kernel_rfl) hQ (y_move (s := 52) rfl (w_none rfl) (by simp [ev_same, ev_ne, sz_put, HA.sz, HA.e0, HA.e1, HA.e2, HG])) ?_
      exact hK _ _ ⟨by simp only [sz_put]; exact HA.sz, by simp only [df_put]; exact HA.df, by simp [ev_same, ev_ne, sz_put, HA.sz, HA.e0, HA.e1, HA.e2, HG], by simp [ev_same, ev_ne, sz_put, HA.sz, HA.e0, HA.e1, HA.e2, HG], by simp [ev_same, ev_ne, sz_put, HA.sz, HA.e0, HA.e1, HA.e2, HG]⟩ (by simp [ev_same, ev_ne, sz_put, HA.sz, HA.e0, HA.e1, HA.e2, HG]) W29q27q28q31q33q
    · skip
      obtain ⟨v29q27q31q, w29q27q31q, hr29q27q31q, ho29q27q31q, hg29q27q31q, hat29q27q31q⟩ := run_by (c := cp) 22 O29q27q W29q27q.z (by omega) W29q27q.bel.size
      refine op_append (d := 47) (s := 45) (x := 46) rfl rfl (w_some (j := 24) (t := 40) rfl rfl (by simp [ev_same, ev_ne, sz_put, HA.sz, HA.e0, HA.e1, HA.e2, HG])) rfl rfl (by simp [ev_same, ev_ne, sz_put, HA.sz, HA.e0, HA.e1, HA.e2, HG]) (by simp [ev_same, ev_ne, sz_put, HA.sz, HA.e0, HA.e1, HA.e2, HG]) hr29q27q31q ?_
      have W29q27q31q := WB.row (base := 0) W29q27q O29q27q hg29q27q31q
      have O29q27q31q : w29q27q31q.ownsRow w.heap.size 5 1 v29q27q31q n (by_ b) := by rw [Nat.zero_add] at ho29q27q31q; exact ho29q27q31q
      have R29q27q31q := R29q27q.row hL hg29q27q31q hat29q27q31q
      refine all_ (rs := [28, 33]) (by kernel_rfl) (by simp) (fun i hi => ?_)
      simp only [List.mem_cons, List.not_mem_nil, or_false] at hi
      rcases hi with rfl | rfl
      · skip
        have hc29q27q31q28q := R29q27q31q.z.conv c1
        rw [← hS] at hc29q27q31q28q
        refine op_conv (d := 44) (s := 43) rfl rfl (w_some (j := 24) (t := 40) rfl rfl (by simp [ev_same, ev_ne, sz_put, HA.sz, HA.e0, HA.e1, HA.e2, HG])) rfl (by simp [ev_same, ev_ne, sz_put, HA.sz, HA.e0, HA.e1, HA.e2, HG]) hc29q27q31q28q ?_
        refine all_ (rs := [33]) (by kernel_rfl) (by simp) (fun i hi => ?_)
        obtain rfl := List.mem_singleton.1 hi
        refine op_call2 (d := 49) (s := 47) (x := 48) rfl rfl (w_some (j := 24) (t := 40) rfl rfl (by simp [ev_same, ev_ne, sz_put, HA.sz, HA.e0, HA.e1, HA.e2, HG])) rfl (fun _ _ => by go_simp) (by simp [ev_same, ev_ne, sz_put, HA.sz, HA.e0, HA.e1, HA.e2, HG]) (by simp [ev_same, ev_ne, sz_put, HA.sz, HA.e0, HA.e1, HA.e2, HG]) (HR _ _ O29q27q31q) (fun e w29q27q31q28q33q he => ?_)
        obtain ⟨A2, c2, rfl, hy29q27q31q28q33q, hg29q27q31q28q33q⟩ := puts_z he
        refine ⟨_, rfl, ?_⟩
        have W29q27q31q28q33q := WB.row (base := 0) W29q27q31q O29q27q31q hg29q27q31q28q33q
        have Z29q27q31q28q33q := (R29q27q31q.row hL hg29q27q31q28q33q (.inl rfl)).z
        refine all_ (rs := [34]) (by kernel_rfl) (by simp) (fun i hi => ?_)
        obtain rfl := List.mem_singleton.1 hi
        have hc29q27q31q28q33q34q := hy29q27q31q28q33q.conv c2
        rw [← hS] at hc29q27q31q28q33q34q
        refine op_conv (d := 50) (s := 49) rfl rfl (w_some (j := 24) (t := 40) rfl rfl (by simp [ev_same, ev_ne, sz_put, HA.sz, HA.e0, HA.e1, HA.e2, HG])) rfl (by simp [ev_same, ev_ne, sz_put, HA.sz, HA.e0, HA.e1, HA.e2, HG]) hc29q27q31q28q33q34q ?_
        refine take_ (i := 35) (d := 51) (v := (.bool true)) rfl rfl (by kernel_rfl) (by kernel_rfl) (by kernel_rfl) hQ (y_eql (s := 44) (x := 50) (S := S) rfl (w_some (j := 24) (t := 40) rfl rfl (by simp [ev_same, ev_ne, sz_put, HA.sz, HA.e0, HA.e1, HA.e2, HG])) (by simp [ev_same, ev_ne, sz_put, HA.sz, HA.e0, HA.e1, HA.e2, HG]) (by simp [ev_same, ev_ne, sz_put, HA.sz, HA.e0, HA.e1, HA.e2, HG])) ?_
        refine take_ (i := 36) (d := 52) (v := (.bool true)) rfl rfl (by kernel_rfl) (by kernel_rfl) (by kernel_rfl) hQ (y_pick (s := 40) (x := 51) rfl (w_none rfl) (by simp [ev_same, ev_ne, sz_put, HA.sz, HA.e0, HA.e1, HA.e2, HG]) (by simp [ev_same, ev_ne, sz_put, HA.sz, HA.e0, HA.e1, HA.e2, HG])) ?_
        refine take_ (i := 37) (d := 53) (v := (.bool true)) rfl rfl (by kernel_rfl) (by kernel_rfl) (by kernel_rfl) hQ (y_move (s := 52) rfl (w_none rfl) (by simp [ev_same, ev_ne, sz_put, HA.sz, HA.e0, HA.e1, HA.e2, HG])) ?_
        exact hK _ _ ⟨by simp only [sz_put]; exact HA.sz, by simp only [df_put]; exact HA.df, by simp [ev_same, ev_ne, sz_put, HA.sz, HA.e0, HA.e1, HA.e2, HG], by simp [ev_same, ev_ne, sz_put, HA.sz, HA.e0, HA.e1, HA.e2, HG], by simp [ev_same, ev_ne, sz_put, HA.sz, HA.e0, HA.e1, HA.e2, HG]⟩ (by simp [ev_same, ev_ne, sz_put, HA.sz, HA.e0, HA.e1, HA.e2, HG]) W29q27q31q28q33q
      · skip
        refine op_call2 (d := 49) (s := 47) (x := 48) rfl rfl (w_some (j := 24) (t := 40) rfl rfl (by simp [ev_same, ev_ne, sz_put, HA.sz, HA.e0, HA.e1, HA.e2, HG])) rfl (fun _ _ => by go_simp) (by simp [ev_same, ev_ne, sz_put, HA.sz, HA.e0, HA.e1, HA.e2, HG]) (by simp [ev_same, ev_ne, sz_put, HA.sz, HA.e0, HA.e1, HA.e2, HG]) (HR _ _ O29q27q31q) (fun e w29q27q31q33q he => ?_)
        obtain ⟨A2, c2, rfl, hy29q27q31q33q, hg29q27q31q33q⟩ := puts_z he
        refine ⟨_, rfl, ?_⟩
        have W29q27q31q33q := WB.row (base := 0) W29q27q31q O29q27q31q hg29q27q31q33q
        have Z29q27q31q33q := (R29q27q31q.row hL hg29q27q31q33q (.inl rfl)).z
        refine all_ (rs := [28, 34]) (by kernel_rfl) (by simp) (fun i hi => ?_)
        simp only [List.mem_cons, List.not_mem_nil, or_false] at hi
        rcases hi with rfl | rfl
        · skip
          have hc29q27q31q33q28q := Z29q27q31q33q.conv c1
          rw [← hS] at hc29q27q31q33q28q
          refine op_conv (d := 44) (s := 43) rfl rfl (w_some (j := 24) (t := 40) rfl rfl (by simp [ev_same, ev_ne, sz_put, HA.sz, HA.e0, HA.e1, HA.e2, HG])) rfl (by simp [ev_same, ev_ne, sz_put, HA.sz, HA.e0, HA.e1, HA.e2, HG]) hc29q27q31q33q28q ?_
          refine all_ (rs := [34]) (by kernel_rfl) (by simp) (fun i hi => ?_)
          obtain rfl := List.mem_singleton.1 hi
          have hc29q27q31q33q28q34q := hy29q27q31q33q.conv c2
          rw [← hS] at hc29q27q31q33q28q34q
          refine op_conv (d := 50) (s := 49) rfl rfl (w_some (j := 24) (t := 40) rfl rfl (by simp [ev_same, ev_ne, sz_put, HA.sz, HA.e0, HA.e1, HA.e2, HG])) rfl (by simp [ev_same, ev_ne, sz_put, HA.sz, HA.e0, HA.e1, HA.e2, HG]) hc29q27q31q33q28q34q ?_
          refine take_ (i := 35) (d := 51) (v := (.bool true)) rfl rfl (by kernel_rfl) (by kernel_rfl) (by kernel_rfl) hQ (y_eql (s := 44) (x := 50) (S := S) rfl (w_some (j := 24) (t := 40) rfl rfl (by simp [ev_same, ev_ne, sz_put, HA.sz, HA.e0, HA.e1, HA.e2, HG])) (by simp [ev_same, ev_ne, sz_put, HA.sz, HA.e0, HA.e1, HA.e2, HG]) (by simp [ev_same, ev_ne, sz_put, HA.sz, HA.e0, HA.e1, HA.e2, HG])) ?_
          refine take_ (i := 36) (d := 52) (v := (.bool true)) rfl rfl (by kernel_rfl) (by kernel_rfl) (by kernel_rfl) hQ (y_pick (s := 40) (x := 51) rfl (w_none rfl) (by simp [ev_same, ev_ne, sz_put, HA.sz, HA.e0, HA.e1, HA.e2, HG]) (by simp [ev_same, ev_ne, sz_put, HA.sz, HA.e0, HA.e1, HA.e2, HG])) ?_
          refine take_ (i := 37) (d := 53) (v := (.bool true)) rfl rfl (by kernel_rfl) (by kernel_rfl) (by kernel_rfl) hQ (y_move (s := 52) rfl (w_none rfl) (by simp [ev_same, ev_ne, sz_put, HA.sz, HA.e0, HA.e1, HA.e2, HG])) ?_
          exact hK _ _ ⟨by simp only [sz_put]; exact HA.sz, by simp only [df_put]; exact HA.df, by simp [ev_same, ev_ne, sz_put, HA.sz, HA.e0, HA.e1, HA.e2, HG], by simp [ev_same, ev_ne, sz_put, HA.sz, HA.e0, HA.e1, HA.e2, HG], by simp [ev_same, ev_ne, sz_put, HA.sz, HA.e0, HA.e1, HA.e2, HG]⟩ (by simp [ev_same, ev_ne, sz_put, HA.sz, HA.e0, HA.e1, HA.e2, HG]) W29q27q31q33q
        · skip
          have hc29q27q31q33q34q := hy29q27q31q33q.conv c2
          rw [← hS] at hc29q27q31q33q34q
          refine op_conv (d := 50) (s := 49) rfl rfl (w_some (j := 24) (t := 40) rfl rfl (by simp [ev_same, ev_ne, sz_put, HA.sz, HA.e0, HA.e1, HA.e2, HG])) rfl (by simp [ev_same, ev_ne, sz_put, HA.sz, HA.e0, HA.e1, HA.e2, HG]) hc29q27q31q33q34q ?_
          refine all_ (rs := [28]) (by kernel_rfl) (by simp) (fun i hi => ?_)
          obtain rfl := List.mem_singleton.1 hi
          have hc29q27q31q33q34q28q := Z29q27q31q33q.conv c1
          rw [← hS] at hc29q27q31q33q34q28q
          refine op_conv (d := 44) (s := 43) rfl rfl (w_some (j := 24) (t := 40) rfl rfl (by simp [ev_same, ev_ne, sz_put, HA.sz, HA.e0, HA.e1, HA.e2, HG])) rfl (by simp [ev_same, ev_ne, sz_put, HA.sz, HA.e0, HA.e1, HA.e2, HG]) hc29q27q31q33q34q28q ?_
          refine take_ (i := 35) (d := 51) (v := (.bool true)) rfl rfl (by kernel_rfl) (by kernel_rfl) (by kernel_rfl) hQ (y_eql (s := 44) (x := 50) (S := S) rfl (w_some (j := 24) (t := 40) rfl rfl (by simp [ev_same, ev_ne, sz_put, HA.sz, HA.e0, HA.e1, HA.e2, HG])) (by simp [ev_same, ev_ne, sz_put, HA.sz, HA.e0, HA.e1, HA.e2, HG]) (by simp [ev_same, ev_ne, sz_put, HA.sz, HA.e0, HA.e1, HA.e2, HG])) ?_
          refine take_ (i := 36) (d := 52) (v := (.bool true)) rfl rfl (by kernel_rfl) (by kernel_rfl) (by kernel_rfl) hQ (y_pick (s := 40) (x := 51) rfl (w_none rfl) (by simp [ev_same, ev_ne, sz_put, HA.sz, HA.e0, HA.e1, HA.e2, HG]) (by simp [ev_same, ev_ne, sz_put, HA.sz, HA.e0, HA.e1, HA.e2, HG])) ?_
          refine take_ (i := 37) (d := 53) (v := (.bool true)) rfl rfl (by kernel_rfl) (by kernel_rfl) (by kernel_rfl) hQ (y_move (s := 52) rfl (w_none rfl) (by simp [ev_same, ev_ne, sz_put, HA.sz, HA.e0, HA.e1, HA.e2, HG])) ?_
          exact hK _ _ ⟨by simp only [sz_put]; exact HA.sz, by simp only [df_put]; exact HA.df, by simp [ev_same, ev_ne, sz_put, HA.sz, HA.e0, HA.e1, HA.e2, HG], by simp [ev_same, ev_ne, sz_put, HA.sz, HA.e0, HA.e1, HA.e2, HG], by simp [ev_same, ev_ne, sz_put, HA.sz, HA.e0, HA.e1, HA.e2, HG]⟩ (by simp [ev_same, ev_ne, sz_put, HA.sz, HA.e0, HA.e1, HA.e2, HG]) W29q27q31q33q
end Go.Proofs.Yteomdnmkcmgeaaa.Rg
