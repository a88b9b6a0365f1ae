/-
  The statement's region, a part of it: whatever order its operations come in, over a frame that is not written out.
-/
import Derived.Test.YteomdnmkcmgeaaaRh
set_option linter.unusedVariables false
set_option linter.unusedSimpArgs false
namespace Go.Proofs.Yteomdnmkcmgeaaa.Rg
open Go.RowKit Go.Proofs.Yteomdnmkcmgeaaa.Kit Go.Proofs.Yteomdnmkcmgeaaa.A Go.Proofs.Yteomdnmkcmgeaaa.B Go.Proofs.Yteomdnmkcmgeaaa.C Go.Proofs.Yteomdnmkcmgeaaa.R

set_option maxHeartbeats 8000000 in
theorem part3 {ops : Array Oper} {Q : Exit → Act → World → Prop} (hops : code3 = .region 3 ops true) (hQ : ∀ c (b : Act) (d : Nat) v w, Q (.panic c) (b.put (some d) v) w → Q (.panic c) b w)
    {A : Option Addr} {n cp : Nat} {b L : List UInt8} {S : ByteArray} {v1 v2 : Value} {w wa : World} {a : Act} {listed : Array Bool} (hL : 0 < L.length) (hS : S = ⟨L.toArray⟩) (hlisted : listed = #[true, true, true, true, true, true, true, true, true, true, true, true, true, true, true, true, true, true, true, true, true, true, true, true, true, false, false, false, false, false, false, false, false, false, false, false, false, false, false, false, false]) (HA : SA (.slice A n cp) v1 v2 a) (HG : a.eval (.tmp 40) = .bool true) (hW : WB w wa A n b) (hn : n ≤ 600)
    (HP : ∀ wx, WB w wx A n b → Calls Try.prog 13 #[.slice A n cp, v1] wx (PPost wx L)) (HR : ∀ wx v, wx.ownsRow w.heap.size 5 1 v n (by_ b) → Calls Try.prog 14 #[v, v1] wx (Puts wx v L))
    (hK : ∀ a' w', SA (.slice A n cp) v1 v2 a' → a'.eval (.tmp 53) = .bool true → WB w w' A n b → wpAny Try.prog .any ops Q 3 #[true, true, true, true, true, true, true, true, true, true, true, true, true, true, true, true, true, true, true, true, true, true, true, true, true, true, true, true, true, true, true, true, true, true, true, true, true, true, false, false, false] a' w') :
    wpAny Try.prog .any ops Q 16 listed a wa := by
  subst hlisted
  have hops' := hops
  unfold code3 at hops'
  conv at hops' => lhs; whnf
  injection hops' with _ hops'
  subst hops'
  clear hops
  refine take_ (i := 25) (d := 41) (v := (.slice A n cp)) rfl rfl (by kernel_rfl) (by kernel_rfl) (by kernel_rfl) hQ (y_move (s := 0) rfl (w_some (j := 24) (t := 40) rfl rfl (by simp [ev_same, ev_ne, sz_put, HA.sz, HA.e0, HA.e1, HA.e2, HG])) (by simp [ev_same, ev_ne, sz_put, HA.sz, HA.e0, HA.e1, HA.e2, HG])) ?_
  refine take_ (i := 26) (d := 42) (v := v1) rfl rfl (by kernel_rfl) (by kernel_rfl) (by kernel_rfl) hQ (y_move (s := 1) rfl (w_some (j := 24) (t := 40) rfl rfl (by simp [ev_same, ev_ne, sz_put, HA.sz, HA.e0, HA.e1, HA.e2, HG])) (by simp [ev_same, ev_ne, sz_put, HA.sz, HA.e0, HA.e1, HA.e2, HG])) ?_
  refine take_ (i := 30) (d := 46) (v := (.slice A n cp)) rfl rfl (by kernel_rfl) (by kernel_rfl) (by kernel_rfl) hQ (y_move (s := 0) rfl (w_some (j := 24) (t := 40) rfl rfl (by simp [ev_same, ev_ne, sz_put, HA.sz, HA.e0, HA.e1, HA.e2, HG])) (by simp [ev_same, ev_ne, sz_put, HA.sz, HA.e0, HA.e1, HA.e2, HG])) ?_
  refine take_ (i := 32) (d := 48) (v := v1) rfl rfl (by kernel_rfl) (by kernel_rfl) (by kernel_rfl) hQ (y_move (s := 1) rfl (w_some (j := 24) (t := 40) rfl rfl (by simp [ev_same, ev_ne, sz_put, HA.sz, HA.e0, HA.e1, HA.e2, HG])) (by simp [ev_same, ev_ne, sz_put, HA.sz, HA.e0, HA.e1, HA.e2, HG])) ?_
  refine all_ (rs := [27, 29]) (by kernel_rfl) (by simp) (fun i hi => ?_)
  simp only [List.mem_cons, List.not_mem_nil, or_false] at hi
  rcases hi with rfl | rfl
  · skip
    refine op_call2 (d := 43) (s := 41) (x := 42) rfl rfl (w_some (j := 24) (t := 40) rfl rfl (by simp [ev_same, ev_ne, sz_put, HA.sz, HA.e0, HA.e1, HA.e2, HG])) rfl (fun _ _ => by go_simp) (by simp [ev_same, ev_ne, sz_put, HA.sz, HA.e0, HA.e1, HA.e2, HG]) (by simp [ev_same, ev_ne, sz_put, HA.sz, HA.e0, HA.e1, HA.e2, HG]) (HP _ hW) (fun e w27_ he => ?_)
    obtain ⟨A1, c1, rfl, hz27_, hb27_, hne27_⟩ := he
    refine ⟨_, rfl, ?_⟩
    have W27_ := hW.below hb27_
    refine all_ (rs := [28, 29]) (by kernel_rfl) (by simp) (fun i hi => ?_)
    simp only [List.mem_cons, List.not_mem_nil, or_false] at hi
    rcases hi with rfl | rfl
    · skip
      have hc27_28_ := hz27_.conv c1
      rw [← hS] at hc27_28_
      refine op_conv (d := 44) (s := 43) rfl rfl (w_some (j := 24) (t := 40) rfl rfl (by simp [ev_same, ev_ne, sz_put, HA.sz, HA.e0, HA.e1, HA.e2, HG])) rfl (by simp [ev_same, ev_ne, sz_put, HA.sz, HA.e0, HA.e1, HA.e2, HG]) hc27_28_ ?_
      refine all_ (rs := [29]) (by kernel_rfl) (by simp) (fun i hi => ?_)
      obtain rfl := List.mem_singleton.1 hi
      refine op_build (d := 45) rfl rfl (w_some (j := 24) (t := 40) rfl rfl (by simp [ev_same, ev_ne, sz_put, HA.sz, HA.e0, HA.e1, HA.e2, HG])) rfl ?_
      have W27_28_29_ := W27_.alloc (.cells #[] 5)
      have O27_28_29_ := own_none w27_ W27_.bel.size
      have z27_28_29_ := (hz27_.alloc (Nat.le_refl _) (.cells #[] 5)).more (B' := (w27_.alloc (.cells #[] 5)).heap.size) (by simp)
      have R27_28_29_ : PR (w27_.alloc (.cells #[] 5)) A1 L.length L (.slice (some ⟨w27_.heap.size, 0, none⟩) 0 0) := ⟨z27_28_29_, fun ad e he => by obtain ⟨ad', e', hlt, _⟩ := hz27_.2 hL; rw [e] at e'; injection e' with e'; subst e'; injection he with he; have he : w27_.heap.size = ad.block := he; omega⟩
      refine all_ (rs := [31]) (by kernel_rfl) (by simp) (fun i hi => ?_)
      obtain rfl := List.mem_singleton.1 hi
      obtain ⟨v27_28_29_31_, w27_28_29_31_, hr27_28_29_31_, ho27_28_29_31_, hg27_28_29_31_, hat27_28_29_31_⟩ := run_by (c := cp) 22 O27_28_29_ W27_28_29_.z (by omega) W27_28_29_.bel.size
      refine op_append (d := 47) (s := 45) (x := 46) rfl rfl (w_some (j := 24) (t := 40) rfl rfl (by simp [ev_same, ev_ne, sz_put, HA.sz, HA.e0, HA.e1, HA.e2, HG])) rfl rfl (by simp [ev_same, ev_ne, sz_put, HA.sz, HA.e0, HA.e1, HA.e2, HG]) (by simp [ev_same, ev_ne, sz_put, HA.sz, HA.e0, HA.e1, HA.e2, HG]) hr27_28_29_31_ ?_
      have W27_28_29_31_ := WB.row (base := 0) W27_28_29_ O27_28_29_ hg27_28_29_31_
      have O27_28_29_31_ : w27_28_29_31_.ownsRow w.heap.size 5 1 v27_28_29_31_ n (by_ b) := by rw [Nat.zero_add] at ho27_28_29_31_; exact ho27_28_29_31_
      have R27_28_29_31_ := R27_28_29_.row hL hg27_28_29_31_ hat27_28_29_31_
      refine all_ (rs := [33]) (by kernel_rfl) (by simp) (fun i hi => ?_)
      obtain rfl := List.mem_singleton.1 hi
      refine op_call2 (d := 49) (s := 47) (x := 48) rfl rfl (w_some (j := 24) (t := 40) rfl rfl (by simp [ev_same, ev_ne, sz_put, HA.sz, HA.e0, HA.e1, HA.e2, HG])) rfl (fun _ _ => by go_simp) (by simp [ev_same, ev_ne, sz_put, HA.sz, HA.e0, HA.e1, HA.e2, HG]) (by simp [ev_same, ev_ne, sz_put, HA.sz, HA.e0, HA.e1, HA.e2, HG]) (HR _ _ O27_28_29_31_) (fun e w27_28_29_31_33_ he => ?_)
      obtain ⟨A2, c2, rfl, hy27_28_29_31_33_, hg27_28_29_31_33_⟩ := puts_z he
      refine ⟨_, rfl, ?_⟩
      have W27_28_29_31_33_ := WB.row (base := 0) W27_28_29_31_ O27_28_29_31_ hg27_28_29_31_33_
      have Z27_28_29_31_33_ := (R27_28_29_31_.row hL hg27_28_29_31_33_ (.inl rfl)).z
      refine all_ (rs := [34]) (by kernel_rfl) (by simp) (fun i hi => ?_)
      obtain rfl := List.mem_singleton.1 hi
      have hc27_28_29_31_33_34_ := hy27_28_29_31_33_.conv c2
      rw [← hS] at hc27_28_29_31_33_34_
      refine op_conv (d := 50) (s := 49) rfl rfl (w_some (j := 24) (t := 40) rfl rfl (by simp [ev_same, ev_ne, sz_put, HA.sz, HA.e0, HA.e1, HA.e2, HG])) rfl (by simp [ev_same, ev_ne, sz_put, HA.sz, HA.e0, HA.e1, HA.e2, HG]) hc27_28_29_31_33_34_ ?_
      refine take_ (i := 35) (d := 51) (v := (.bool true)) rfl rfl (by kernel_rfl) (by kernel_rfl) (by kernel_rfl) hQ (y_eql (s := 44) (x := 50) (S := S) rfl (w_some (j := 24) (t := 40) rfl rfl (by simp [ev_same, ev_ne, sz_put, HA.sz, HA.e0, HA.e1, HA.e2, HG])) (by simp [ev_same, ev_ne, sz_put, HA.sz, HA.e0, HA.e1, HA.e2, HG]) (by simp [ev_same, ev_ne, sz_put, HA.sz, HA.e0, HA.e1, HA.e2, HG])) ?_
      refine take_ (i := 36) (d := 52) (v := (.bool true)) rfl rfl (by kernel_rfl) (by kernel_rfl) (by kernel_rfl) hQ (y_pick (s := 40) (x := 51) rfl (w_none rfl) (by simp [ev_same, ev_ne, sz_put, HA.sz, HA.e0, HA.e1, HA.e2, HG]) (by simp [ev_same, ev_ne, sz_put, HA.sz, HA.e0, HA.e1, HA.e2, HG])) ?_
      refine take_ (i := 37) (d := 53) (v := (.bool true)) rfl rfl (by kernel_rfl) (by kernel_rfl) (by kernel_rfl) hQ (y_move (s := 52) rfl (w_none rfl) (by simp [ev_same, ev_ne, sz_put, HA.sz, HA.e0, HA.e1, HA.e2, HG])) ?_
      exact hK _ _ ⟨by simp only [sz_put]; exact HA.sz, by simp only [df_put]; exact HA.df, by simp [ev_same, ev_ne, sz_put, HA.sz, HA.e0, HA.e1, HA.e2, HG], by simp [ev_same, ev_ne, sz_put, HA.sz, HA.e0, HA.e1, HA.e2, HG], by simp [ev_same, ev_ne, sz_put, HA.sz, HA.e0, HA.e1, HA.e2, HG]⟩ (by simp [ev_same, ev_ne, sz_put, HA.sz, HA.e0, HA.e1, HA.e2, HG]) W27_28_29_31_33_
    · skip
      refine op_build (d := 45) rfl rfl (w_some (j := 24) (t := 40) rfl rfl (by simp [ev_same, ev_ne, sz_put, HA.sz, HA.e0, HA.e1, HA.e2, HG])) rfl ?_
      have W27_29_ := W27_.alloc (.cells #[] 5)
      have O27_29_ := own_none w27_ W27_.bel.size
      have z27_29_ := (hz27_.alloc (Nat.le_refl _) (.cells #[] 5)).more (B' := (w27_.alloc (.cells #[] 5)).heap.size) (by simp)
      have R27_29_ : PR (w27_.alloc (.cells #[] 5)) A1 L.length L (.slice (some ⟨w27_.heap.size, 0, none⟩) 0 0) := ⟨z27_29_, fun ad e he => by obtain ⟨ad', e', hlt, _⟩ := hz27_.2 hL; rw [e] at e'; injection e' with e'; subst e'; injection he with he; have he : w27_.heap.size = ad.block := he; omega⟩
      refine all_ (rs := [28, 31]) (by kernel_rfl) (by simp) (fun i hi => ?_)
      simp only [List.mem_cons, List.not_mem_nil, or_false] at hi
      rcases hi with rfl | rfl
      · skip
        have hc27_29_28_ := z27_29_.conv c1
        rw [← hS] at hc27_29_28_
        refine op_conv (d := 44) (s := 43) rfl rfl (w_some (j := 24) (t := 40) rfl rfl (by simp [ev_same, ev_ne, sz_put, HA.sz, HA.e0, HA.e1, HA.e2, HG])) rfl (by simp [ev_same, ev_ne, sz_put, HA.sz, HA.e0, HA.e1, HA.e2, HG]) hc27_29_28_ ?_
        refine all_ (rs := [31]) (by kernel_rfl) (by simp) (fun i hi => ?_)
        obtain rfl := List.mem_singleton.1 hi
        obtain ⟨v27_29_28_31_, w27_29_28_31_, hr27_29_28_31_, ho27_29_28_31_, hg27_29_28_31_, hat27_29_28_31_⟩ := run_by (c := cp) 22 O27_29_ W27_29_.z (by omega) W27_29_.bel.size
        refine op_append (d := 47) (s := 45) (x := 46) rfl rfl (w_some (j := 24) (t := 40) rfl rfl (by simp [ev_same, ev_ne, sz_put, HA.sz, HA.e0, HA.e1, HA.e2, HG])) rfl rfl (by simp [ev_same, ev_ne, sz_put, HA.sz, HA.e0, HA.e1, HA.e2, HG]) (by simp [ev_same, ev_ne, sz_put, HA.sz, HA.e0, HA.e1, HA.e2, HG]) hr27_29_28_31_ ?_
        have W27_29_28_31_ := WB.row (base := 0) W27_29_ O27_29_ hg27_29_28_31_
        have O27_29_28_31_ : w27_29_28_31_.ownsRow w.heap.size 5 1 v27_29_28_31_ n (by_ b) := by rw [Nat.zero_add] at ho27_29_28_31_; exact ho27_29_28_31_
        have R27_29_28_31_ := R27_29_.row hL hg27_29_28_31_ hat27_29_28_31_
        refine all_ (rs := [33]) (by kernel_rfl) (by simp) (fun i hi => ?_)
        obtain rfl := List.mem_singleton.1 hi
        refine op_call2 (d := 49) (s := 47) (x := 48) rfl rfl (w_some (j := 24) (t := 40) rfl rfl (by simp [ev_same, ev_ne, sz_put, HA.sz, HA.e0, HA.e1, HA.e2, HG])) rfl (fun _ _ => by go_simp) (by simp [ev_same, ev_ne, sz_put, HA.sz, HA.e0, HA.e1, HA.e2, HG]) (by simp [ev_same, ev_ne, sz_put, HA.sz, HA.e0, HA.e1, HA.e2, HG]) (HR _ _ O27_29_28_31_) (fun e w27_29_28_31_33_ he => ?_)
        obtain ⟨A2, c2, rfl, hy27_29_28_31_33_, hg27_29_28_31_33_⟩ := puts_z he
        refine ⟨_, rfl, ?_⟩
        have W27_29_28_31_33_ := WB.row (base := 0) W27_29_28_31_ O27_29_28_31_ hg27_29_28_31_33_
        have Z27_29_28_31_33_ := (R27_29_28_31_.row hL hg27_29_28_31_33_ (.inl rfl)).z
        refine all_ (rs := [34]) (by kernel_rfl) (by simp) (fun i hi => ?_)
        obtain rfl := List.mem_singleton.1 hi
        have hc27_29_28_31_33_34_ := hy27_29_28_31_33_.conv c2
        rw [← hS] at hc27_29_28_31_33_34_
        refine op_conv (d := 50) (s := 49) rfl rfl (w_some (j := 24) (t := 40) rfl rfl (by simp [ev_same, ev_ne, sz_put, HA.sz, HA.e0, HA.e1, HA.e2, HG])) rfl (by simp [ev_same, ev_ne, sz_put, HA.sz, HA.e0, HA.e1, HA.e2, HG]) hc27_29_28_31_33_34_ ?_
        refine take_ (i := 35) (d := 51) (v := (.bool true)) rfl rfl (by kernel_rfl) (by kernel_rfl) (by kernel_rfl) hQ (y_eql (s := 44) (x := 50) (S := S) rfl (w_some (j := 24) (t := 40) rfl rfl (by simp [ev_same, ev_ne, sz_put, HA.sz, HA.e0, HA.e1, HA.e2, HG])) (by simp [ev_same, ev_ne, sz_put, HA.sz, HA.e0, HA.e1, HA.e2, HG]) (by simp [ev_same, ev_ne, sz_put, HA.sz, HA.e0, HA.e1, HA.e2, HG])) ?_
        refine take_ (i := 36) (d := 52) (v := (.bool true)) rfl rfl (by kernel_rfl) (by kernel_rfl) (by kernel_rfl) hQ (y_pick (s := 40) (x := 51) rfl (w_none rfl) (by simp [ev_same, ev_ne, sz_put, HA.sz, HA.e0, HA.e1, HA.e2, HG]) (by simp [ev_same, ev_ne, sz_put, HA.sz, HA.e0, HA.e1, HA.e2, HG])) ?_
        refine take_ (i := 37) (d := 53) (v := (.bool true)) rfl rfl (by kernel_rfl) (by kernel_rfl) (by kernel_rfl) hQ (y_move (s := 52) rfl (w_none rfl) (by simp [ev_same, ev_ne, sz_put, HA.sz, HA.e0, HA.e1, HA.e2, HG])) ?_
        exact hK _ _ ⟨by simp only [sz_put]; exact HA.sz, by simp only [df_put]; exact HA.df, by simp [ev_same, ev_ne, sz_put, HA.sz, HA.e0, HA.e1, HA.e2, HG], by simp [ev_same, ev_ne, sz_put, HA.sz, HA.e0, HA.e1, HA.e2, HG], by simp [ev_same, ev_ne, sz_put, HA.sz, HA.e0, HA.e1, HA.e2, HG]⟩ (by simp [ev_same, ev_ne, sz_put, HA.sz, HA.e0, HA.e1, HA.e2, HG]) W27_29_28_31_33_
      · skip
        obtain ⟨v27_29_31_, w27_29_31_, hr27_29_31_, ho27_29_31_, hg27_29_31_, hat27_29_31_⟩ := run_by (c := cp) 22 O27_29_ W27_29_.z (by omega) W27_29_.bel.size
        refine op_append (d := 47) (s := 45) (x := 46) rfl rfl (w_some (j := 24) (t := 40) rfl rfl (by simp [ev_same, ev_ne, sz_put, HA.sz, HA.e0, HA.e1, HA.e2, HG])) rfl rfl (by simp [ev_same, ev_ne, sz_put, HA.sz, HA.e0, HA.e1, HA.e2, HG]) (by simp [ev_same, ev_ne, sz_put, HA.sz, HA.e0, HA.e1, HA.e2, HG]) hr27_29_31_ ?_
        have W27_29_31_ := WB.row (base := 0) W27_29_ O27_29_ hg27_29_31_
        have O27_29_31_ : w27_29_31_.ownsRow w.heap.size 5 1 v27_29_31_ n (by_ b) := by rw [Nat.zero_add] at ho27_29_31_; exact ho27_29_31_
        have R27_29_31_ := R27_29_.row hL hg27_29_31_ hat27_29_31_
        refine all_ (rs := [28, 33]) (by kernel_rfl) (by simp) (fun i hi => ?_)
        simp only [List.mem_cons, List.not_mem_nil, or_false] at hi
        rcases hi with rfl | rfl
        · skip
          have hc27_29_31_28_ := R27_29_31_.z.conv c1
          rw [← hS] at hc27_29_31_28_
          refine op_conv (d := 44) (s := 43) rfl rfl (w_some (j := 24) (t := 40) rfl rfl (by simp [ev_same, ev_ne, sz_put, HA.sz, HA.e0, HA.e1, HA.e2, HG])) rfl (by simp [ev_same, ev_ne, sz_put, HA.sz, HA.e0, HA.e1, HA.e2, HG]) hc27_29_31_28_ ?_
          refine all_ (rs := [33]) (by kernel_rfl) (by simp) (fun i hi => ?_)
          obtain rfl := List.mem_singleton.1 hi
          refine op_call2 (d := 49) (s := 47) (x := 48) rfl rfl (w_some (j := 24) (t := 40) rfl rfl (by simp [ev_same, ev_ne, sz_put, HA.sz, HA.e0, HA.e1, HA.e2, HG])) rfl (fun _ _ => by go_simp) (by simp [ev_same, ev_ne, sz_put, HA.sz, HA.e0, HA.e1, HA.e2, HG]) (by simp [ev_same, ev_ne, sz_put, HA.sz, HA.e0, HA.e1, HA.e2, HG]) (HR _ _ O27_29_31_) (fun e w27_29_31_28_33_ he => ?_)
          obtain ⟨A2, c2, rfl, hy27_29_31_28_33_, hg27_29_31_28_33_⟩ := puts_z he
          refine ⟨_, rfl, ?_⟩
          have W27_29_31_28_33_ := WB.row (base := 0) W27_29_31_ O27_29_31_ hg27_29_31_28_33_
          have Z27_29_31_28_33_ := (R27_29_31_.row hL hg27_29_31_28_33_ (.inl rfl)).z
          refine all_ (rs := [34]) (by kernel_rfl) (by simp) (fun i hi => ?_)
          obtain rfl := List.mem_singleton.1 hi
          have hc27_29_31_28_33_34_ := hy27_29_31_28_33_.conv c2
          rw [← hS] at hc27_29_31_28_33_34_
          refine op_conv (d := 50) (s := 49) rfl rfl (w_some (j := 24) (t := 40) rfl rfl (by simp [ev_same, ev_ne, sz_put, HA.sz, HA.e0, HA.e1, HA.e2, HG])) rfl (by simp [ev_same, ev_ne, sz_put, HA.sz, HA.e0, HA.e1, HA.e2, HG]) hc27_29_31_28_33_34_ ?_
          refine take_ (i := 35) (d := 51) (v := (.bool true)) rfl rfl (by kernel_rfl) (by kernel_rfl) (by kernel_rfl) hQ (y_eql (s := 44) (x := 50) (S := S) rfl (w_some (j := 24) (t := 40) rfl rfl (by simp [ev_same, ev_ne, sz_put, HA.sz, HA.e0, HA.e1, HA.e2, HG])) (by simp [ev_same, ev_ne, sz_put, HA.sz, HA.e0, HA.e1, HA.e2, HG]) (by simp [ev_same, ev_ne, sz_put, HA.sz, HA.e0, HA.e1, HA.e2, HG])) ?_
          refine take_ (i := 36) (d := 52) (v := (.bool true)) rfl rfl (by kernel_rfl) (by kernel_rfl) (by kernel_rfl) hQ (y_pick (s := 40) (x := 51) rfl (w_none rfl) (by simp [ev_same, ev_ne, sz_put, HA.sz, HA.e0, HA.e1, HA.e2, HG]) (by simp [ev_same, ev_ne, sz_put, HA.sz, HA.e0, HA.e1, HA.e2, HG])) ?_
          refine take_ (i := 37) (d := 53) (v := (.bool true)) rfl rfl (by kernel_rfl) (by kernel_rfl) (by kernel_rfl) hQ (y_move (s := 52) rfl (w_none rfl) (by simp [ev_same, ev_ne, sz_put, HA.sz, HA.e0, HA.e1, HA.e2, HG])) ?_
          exact hK _ _ ⟨by simp only [sz_put]; exact HA.sz, by simp only [df_put]; exact HA.df, by simp [ev_same, ev_ne, sz_put, HA.sz, HA.e0, HA.e1, HA.e2, HG], by simp [ev_same, ev_ne, sz_put, HA.sz, HA.e0, HA.e1, HA.e2, HG], by simp [ev_same, ev_ne, sz_put, HA.sz, HA.e0, HA.e1, HA.e2, HG]⟩ (by simp [ev_same, ev_ne, sz_put, HA.sz, HA.e0, HA.e1, HA.e2, HG]) W27_29_31_28_33_
        · skip
          refine op_call2 (d := 49) (s := 47) (x := 48) rfl rfl (w_some (j := 24) (t := 40) rfl rfl (by simp [ev_same, ev_ne, sz_put, HA.sz, HA.e0, HA.e1, HA.e2, HG])) rfl (fun _ _ => by go_simp) (by simp [ev_same, ev_ne, sz_put, HA.sz, HA.e0, HA.e1, HA.e2, HG]) (by simp [ev_same, ev_ne, sz_put, HA.sz, HA.e0, HA.e1, HA.e2, HG]) (HR _ _ O27_29_31_) (fun e w27_29_31_33_ he => ?_)
          obtain ⟨A2, c2, rfl, hy27_29_31_33_, hg27_29_31_33_⟩ := puts_z he
          refine ⟨_, rfl, ?_⟩
          have W27_29_31_33_ := WB.row (base := 0) W27_29_31_ O27_29_31_ hg27_29_31_33_
          have Z27_29_31_33_ := (R27_29_31_.row hL hg27_29_31_33_ (.inl rfl)).z
          refine all_ (rs := [28, 34]) (by kernel_rfl) (by simp) (fun i hi => ?_)
          simp only [List.mem_cons, List.not_mem_nil, or_false] at hi
          rcases hi with rfl | rfl
          · skip
            have hc27_29_31_33_28_ := Z27_29_31_33_.conv c1
            rw [← hS] at hc27_29_31_33_28_
            refine op_conv (d := 44) (s := 43) rfl rfl (w_some (j := 24) (t := 40) rfl rfl (by simp [ev_same, ev_ne, sz_put, HA.sz, HA.e0, HA.e1, HA.e2, HG])) rfl (by simp [ev_same, ev_ne, sz_put, HA.sz, HA.e0, HA.e1, HA.e2, HG]) hc27_29_31_33_28_ ?_
            refine all_ (rs := [34]) (by kernel_rfl) (by simp) (fun i hi => ?_)
            obtain rfl := List.mem_singleton.1 hi
            have hc27_29_31_33_28_34_ := hy27_29_31_33_.conv c2
            rw [← hS] at hc27_29_31_33_28_34_
            refine op_conv (d := 50) (s := 49) rfl rfl (w_some (j := 24) (t := 40) rfl rfl (by simp [ev_same, ev_ne, sz_put, HA.sz, HA.e0, HA.e1, HA.e2, HG])) rfl (by simp [ev_same, ev_ne, sz_put, HA.sz, HA.e0, HA.e1, HA.e2, HG]) hc27_29_31_33_28_34_ ?_
            refine take_ (i := 35) (d := 51) (v := (.bool true)) rfl rfl (by kernel_rfl) (by kernel_rfl) (by kernel_rfl) hQ (y_eql (s := 44) (x := 50) (S := S) rfl (w_some (j := 24) (t := 40) rfl rfl (by simp [ev_same, ev_ne, sz_put, HA.sz, HA.e0, HA.e1, HA.e2, HG])) (by simp [ev_same, ev_ne, sz_put, HA.sz, HA.e0, HA.e1, HA.e2, HG]) (by simp [ev_same, ev_ne, sz_put, HA.sz, HA.e0, HA.e1, HA.e2, HG])) ?_
            refine take_ (i := 36) (d := 52) (v := (.bool true)) rfl rfl (by kernel_rfl) (by kernel_rfl) (by kernel_rfl) hQ (y_pick (s := 40) (x := 51) rfl (w_none rfl) (by simp [ev_same, ev_ne, sz_put, HA.sz, HA.e0, HA.e1, HA.e2, HG]) (by simp [ev_same, ev_ne, sz_put, HA.sz, HA.e0, HA.e1, HA.e2, HG])) ?_
            refine take_ (i := 37) (d := 53) (v := (.bool true)) rfl rfl (by kernel_rfl) (by kernel_rfl) (by kernel_rfl) hQ (y_move (s := 52) rfl (w_none rfl) (by simp [ev_same, ev_ne, sz_put, HA.sz, HA.e0, HA.e1, HA.e2, HG])) ?_
            exact hK _ _ ⟨by simp only [sz_put]; exact HA.sz, by simp only [df_put]; exact HA.df, by simp [ev_same, ev_ne, sz_put, HA.sz, HA.e0, HA.e1, HA.e2, HG], by simp [ev_same, ev_ne, sz_put, HA.sz, HA.e0, HA.e1, HA.e2, HG], by simp [ev_same, ev_ne, sz_put, HA.sz, HA.e0, HA.e1, HA.e2, HG]⟩ (by simp [ev_same, ev_ne, sz_put, HA.sz, HA.e0, HA.e1, HA.e2, HG]) W27_29_31_33_
          · skip
            have hc27_29_31_33_34_ := hy27_29_31_33_.conv c2
            rw [← hS] at hc27_29_31_33_34_
            refine op_conv (d := 50) (s := 49) rfl rfl (w_some (j := 24) (t := 40) rfl rfl (by simp [ev_same, ev_ne, sz_put, HA.sz, HA.e0, HA.e1, HA.e2, HG])) rfl (by simp [ev_same, ev_ne, sz_put, HA.sz, HA.e0, HA.e1, HA.e2, HG]) hc27_29_31_33_34_ ?_
            refine all_ (rs := [28]) (by kernel_rfl) (by simp) (fun i hi => ?_)
            obtain rfl := List.mem_singleton.1 hi
            have hc27_29_31_33_34_28_ := Z27_29_31_33_.conv c1
            rw [← hS] at hc27_29_31_33_34_28_
            refine op_conv (d := 44) (s := 43) rfl rfl (w_some (j := 24) (t := 40) rfl rfl (by simp [ev_same, ev_ne, sz_put, HA.sz, HA.e0, HA.e1, HA.e2, HG])) rfl (by simp [ev_same, ev_ne, sz_put, HA.sz, HA.e0, HA.e1, HA.e2, HG]) hc27_29_31_33_34_28_ ?_
            refine take_ (i := 35) (d := 51) (v := (.bool true)) rfl rfl (by kernel_rfl) (by kernel_rfl) (by kernel_rfl) hQ (y_eql (s := 44) (x := 50) (S := S) rfl (w_some (j := 24) (t := 40) rfl rfl (by simp [ev_same, ev_ne, sz_put, HA.sz, HA.e0, HA.e1, HA.e2, HG])) (by simp [ev_same, ev_ne, sz_put, HA.sz, HA.e0, HA.e1, HA.e2, HG]) (by simp [ev_same, ev_ne, sz_put, HA.sz, HA.e0, HA.e1, HA.e2, HG])) ?_
            refine take_ (i := 36) (d := 52) (v := (.bool true)) rfl rfl (by kernel_rfl) (by kernel_rfl) (by kernel_rfl) hQ (y_pick (s := 40) (x := 51) rfl (w_none rfl) (by simp [ev_same, ev_ne, sz_put, HA.sz, HA.e0, HA.e1, HA.e2, HG]) (by simp [ev_same, ev_ne, sz_put, HA.sz, HA.e0, HA.e1, HA.e2, HG])) ?_
            refine take_ (i := 37) (d := 53) (v := (.bool true)) rfl rfl (by kernel_rfl) (by kernel_rfl) (by kernel_rfl) hQ (y_move (s := 52) rfl (w_none rfl) (by simp [ev_same, ev_ne, sz_put, HA.sz, HA.e0, HA.e1, HA.e2, HG])) ?_
            exact hK _ _ ⟨by simp only [sz_put]; exact HA.sz, by simp only [df_put]; exact HA.df, by simp [ev_same, ev_ne, sz_put, HA.sz, HA.e0, HA.e1, HA.e2, HG], by simp [ev_same, ev_ne, sz_put, HA.sz, HA.e0, HA.e1, HA.e2, HG], by simp [ev_same, ev_ne, sz_put, HA.sz, HA.e0, HA.e1, HA.e2, HG]⟩ (by simp [ev_same, ev_ne, sz_put, HA.sz, HA.e0, HA.e1, HA.e2, HG]) W27_29_31_33_
  · skip
    refine op_build (d := 45) rfl rfl (w_some (j := 24) (t := 40) rfl rfl (by simp [ev_same, ev_ne, sz_put, HA.sz, HA.e0, HA.e1, HA.e2, HG])) rfl ?_
    have W29_ := hW.alloc (.cells #[] 5)
    have O29_ := own_none wa hW.bel.size
    refine all_ (rs := [27]) (by kernel_rfl) (by simp) (fun i hi => ?_)
    obtain rfl := List.mem_singleton.1 hi
    refine op_call2 (d := 43) (s := 41) (x := 42) rfl rfl (w_some (j := 24) (t := 40) rfl rfl (by simp [ev_same, ev_ne, sz_put, HA.sz, HA.e0, HA.e1, HA.e2, HG])) rfl (fun _ _ => by go_simp) (by simp [ev_same, ev_ne, sz_put, HA.sz, HA.e0, HA.e1, HA.e2, HG]) (by simp [ev_same, ev_ne, sz_put, HA.sz, HA.e0, HA.e1, HA.e2, HG]) (HP _ W29_) (fun e w29_27_ he => ?_)
    obtain ⟨A1, c1, rfl, hz29_27_, hb29_27_, hne29_27_⟩ := he
    refine ⟨_, rfl, ?_⟩
    have W29_27_ := W29_.below hb29_27_
    have O29_27_ := O29_.kept (grown_below hb29_27_ none) (.inr (by simp [Value.ownBlock]))
    have R29_27_ : PR w29_27_ A1 L.length L (.slice (some ⟨wa.heap.size, 0, none⟩) 0 0) := ⟨hz29_27_, fun ad e he => by have h1 := (O29_.lt _ he).2; have h2 := hne29_27_ ad e hL; omega⟩
    refine all_ (rs := [28, 31]) (by kernel_rfl) (by simp) (fun i hi => ?_)
    simp only [List.mem_cons, List.not_mem_nil, or_false] at hi
    rcases hi with rfl | rfl
    · skip
      have hc29_27_28_ := hz29_27_.conv c1
      rw [← hS] at hc29_27_28_
      refine op_conv (d := 44) (s := 43) rfl rfl (w_some (j := 24) (t := 40) rfl rfl (by simp [ev_same, ev_ne, sz_put, HA.sz, HA.e0, HA.e1, HA.e2, HG])) rfl (by simp [ev_same, ev_ne, sz_put, HA.sz, HA.e0, HA.e1, HA.e2, HG]) hc29_27_28_ ?_
      refine all_ (rs := [31]) (by kernel_rfl) (by simp) (fun i hi => ?_)
      obtain rfl := List.mem_singleton.1 hi
      obtain ⟨v29_27_28_31_, w29_27_28_31_, hr29_27_28_31_, ho29_27_28_31_, hg29_27_28_31_, hat29_27_28_31_⟩ := run_by (c := cp) 22 O29_27_ W29_27_.z (by omega) W29_27_.bel.size
      refine op_append (d := 47) (s := 45) (x := 46) rfl rfl (w_some (j := 24) (t := 40) rfl rfl (by simp [ev_same, ev_ne, sz_put, HA.sz, HA.e0, HA.e1, HA.e2, HG])) rfl rfl (by simp [ev_same, ev_ne, sz_put, HA.sz, HA.e0, HA.e1, HA.e2, HG]) (by simp [ev_same, ev_ne, sz_put, HA.sz, HA.e0, HA.e1, HA.e2, HG]) hr29_27_28_31_ ?_
      have W29_27_28_31_ := WB.row (base := 0) W29_27_ O29_27_ hg29_27_28_31_
      have O29_27_28_31_ : w29_27_28_31_.ownsRow w.heap.size 5 1 v29_27_28_31_ n (by_ b) := by rw [Nat.zero_add] at ho29_27_28_31_; exact ho29_27_28_31_
      have R29_27_28_31_ := R29_27_.row hL hg29_27_28_31_ hat29_27_28_31_
      refine all_ (rs := [33]) (by kernel_rfl) (by simp) (fun i hi => ?_)
      obtain rfl := List.mem_singleton.1 hi
      refine op_call2 (d := 49) (s := 47) (x := 48) rfl rfl (w_some (j := 24) (t := 40) rfl rfl (by simp [ev_same, ev_ne, sz_put, HA.sz, HA.e0, HA.e1, HA.e2, HG])) rfl (fun _ _ => by go_simp) (by simp [ev_same, ev_ne, sz_put, HA.sz, HA.e0, HA.e1, HA.e2, HG]) (by simp [ev_same, ev_ne, sz_put, HA.sz, HA.e0, HA.e1, HA.e2, HG]) (HR _ _ O29_27_28_31_) (fun e w29_27_28_31_33_ he => ?_)
      obtain ⟨A2, c2, rfl, hy29_27_28_31_33_, hg29_27_28_31_33_⟩ := puts_z he
      refine ⟨_, rfl, ?_⟩
      have W29_27_28_31_33_ := WB.row (base := 0) W29_27_28_31_ O29_27_28_31_ hg29_27_28_31_33_
      have Z29_27_28_31_33_ := (R29_27_28_31_.row hL hg29_27_28_31_33_ (.inl rfl)).z
      refine all_ (rs := [34]) (by kernel_rfl) (by simp) (fun i hi => ?_)
      obtain rfl := List.mem_singleton.1 hi
      have hc29_27_28_31_33_34_ := hy29_27_28_31_33_.conv c2
      rw [← hS] at hc29_27_28_31_33_34_
      refine op_conv (d := 50) (s := 49) rfl rfl (w_some (j := 24) (t := 40) rfl rfl (by simp [ev_same, ev_ne, sz_put, HA.sz, HA.e0, HA.e1, HA.e2, HG])) rfl (by simp [ev_same, ev_ne, sz_put, HA.sz, HA.e0, HA.e1, HA.e2, HG]) hc29_27_28_31_33_34_ ?_
      refine take_ (i := 35) (d := 51) (v := (.bool true)) rfl rfl (by kernel_rfl) (by kernel_rfl) (by kernel_rfl) hQ (y_eql (s := 44) (x := 50) (S := S) rfl (w_some (j := 24) (t := 40) rfl rfl (by simp [ev_same, ev_ne, sz_put, HA.sz, HA.e0, HA.e1, HA.e2, HG])) (by simp [ev_same, ev_ne, sz_put, HA.sz, HA.e0, HA.e1, HA.e2, HG]) (by simp [ev_same, ev_ne, sz_put, HA.sz, HA.e0, HA.e1, HA.e2, HG])) ?_
      refine take_ (i := 36) (d := 52) (v := (.bool true)) rfl rfl (by kernel_rfl) (by kernel_rfl) (by kernel_rfl) hQ (y_pick (s := 40) (x := 51) rfl (w_none rfl) (by simp [ev_same, ev_ne, sz_put, HA.sz, HA.e0, HA.e1, HA.e2, HG]) (by simp [ev_same, ev_ne, sz_put, HA.sz, HA.e0, HA.e1, HA.e2, HG])) ?_
      refine take_ (i := 37) (d := 53) (v := (.bool true)) rfl rfl (by kernel_rfl) (by kernel_rfl) (by kernel_rfl) hQ (y_move (s := 52) rfl (w_none rfl) (by simp [ev_same, ev_ne, sz_put, HA.sz, HA.e0, HA.e1, HA.e2, HG])) ?_
      exact hK _ _ ⟨by simp only [sz_put]; exact HA.sz, by simp only [df_put]; exact HA.df, by simp [ev_same, ev_ne, sz_put, HA.sz, HA.e0, HA.e1, HA.e2, HG], by simp [ev_same, ev_ne, sz_put, HA.sz, HA.e0, HA.e1, HA.e2, HG], by simp [ev_same, ev_ne, sz_put, HA.sz, HA.e0, HA.e1, HA.e2, HG]⟩ (by simp [ev_same, ev_ne, sz_put, HA.sz, HA.e0, HA.e1, HA.e2, HG]) W29_27_28_31_33_
    · skip
      obtain ⟨v29_27_31_, w29_27_31_, hr29_27_31_, ho29_27_31_, hg29_27_31_, hat29_27_31_⟩ := run_by (c := cp) 22 O29_27_ W29_27_.z (by omega) W29_27_.bel.size
      refine op_append (d := 47) (s := 45) (x := 46) rfl rfl (w_some (j := 24) (t := 40) rfl rfl (by simp [ev_same, ev_ne, sz_put, HA.sz, HA.e0, HA.e1, HA.e2, HG])) rfl rfl (by simp [ev_same, ev_ne, sz_put, HA.sz, HA.e0, HA.e1, HA.e2, HG]) (by simp [ev_same, ev_ne, sz_put, HA.sz, HA.e0, HA.e1, HA.e2, HG]) hr29_27_31_ ?_
      have W29_27_31_ := WB.row (base := 0) W29_27_ O29_27_ hg29_27_31_
      have O29_27_31_ : w29_27_31_.ownsRow w.heap.size 5 1 v29_27_31_ n (by_ b) := by rw [Nat.zero_add] at ho29_27_31_; exact ho29_27_31_
      have R29_27_31_ := R29_27_.row hL hg29_27_31_ hat29_27_31_
      refine all_ (rs := [28, 33]) (by kernel_rfl) (by simp) (fun i hi => ?_)
      simp only [List.mem_cons, List.not_mem_nil, or_false] at hi
      rcases hi with rfl | rfl
      · skip
        have hc29_27_31_28_ := R29_27_31_.z.conv c1
        rw [← hS] at hc29_27_31_28_
        refine op_conv (d := 44) (s := 43) rfl rfl (w_some (j := 24) (t := 40) rfl rfl (by simp [ev_same, ev_ne, sz_put, HA.sz, HA.e0, HA.e1, HA.e2, HG])) rfl (by simp [ev_same, ev_ne, sz_put, HA.sz, HA.e0, HA.e1, HA.e2, HG]) hc29_27_31_28_ ?_
        refine all_ (rs := [33]) (by kernel_rfl) (by simp) (fun i hi => ?_)
        obtain rfl := List.mem_singleton.1 hi
        refine op_call2 (d := 49) (s := 47) (x := 48) rfl rfl (w_some (j := 24) (t := 40) rfl rfl (by simp [ev_same, ev_ne, sz_put, HA.sz, HA.e0, HA.e1, HA.e2, HG])) rfl (fun _ _ => by go_simp) (by simp [ev_same, ev_ne, sz_put, HA.sz, HA.e0, HA.e1, HA.e2, HG]) (by simp [ev_same, ev_ne, sz_put, HA.sz, HA.e0, HA.e1, HA.e2, HG]) (HR _ _ O29_27_31_) (fun e w29_27_31_28_33_ he => ?_)
        obtain ⟨A2, c2, rfl, hy29_27_31_28_33_, hg29_27_31_28_33_⟩ := puts_z he
        refine ⟨_, rfl, ?_⟩
        have W29_27_31_28_33_ := WB.row (base := 0) W29_27_31_ O29_27_31_ hg29_27_31_28_33_
        have Z29_27_31_28_33_ := (R29_27_31_.row hL hg29_27_31_28_33_ (.inl rfl)).z
        refine all_ (rs := [34]) (by kernel_rfl) (by simp) (fun i hi => ?_)
        obtain rfl := List.mem_singleton.1 hi
        have hc29_27_31_28_33_34_ := hy29_27_31_28_33_.conv c2
        rw [← hS] at hc29_27_31_28_33_34_
        refine op_conv (d := 50) (s := 49) rfl rfl (w_some (j := 24) (t := 40) rfl rfl (by simp [ev_same, ev_ne, sz_put, HA.sz, HA.e0, HA.e1, HA.e2, HG])) rfl (by simp [ev_same, ev_ne, sz_put, HA.sz, HA.e0, HA.e1, HA.e2, HG]) hc29_27_31_28_33_34_ ?_
        refine take_ (i := 35) (d := 51) (v := (.bool true)) rfl rfl (by kernel_rfl) (by kernel_rfl) (by kernel_rfl) hQ (y_eql (s := 44) (x := 50) (S := S) rfl (w_some (j := 24) (t := 40) rfl rfl (by simp [ev_same, ev_ne, sz_put, HA.sz, HA.e0, HA.e1, HA.e2, HG])) (by simp [ev_same, ev_ne, sz_put, HA.sz, HA.e0, HA.e1, HA.e2, HG]) (by simp [ev_same, ev_ne, sz_put, HA.sz, HA.e0, HA.e1, HA.e2, HG])) ?_
        refine take_ (i := 36) (d := 52) (v := (.bool true)) rfl rfl (by kernel_rfl) (by kernel_rfl) (by kernel_rfl) hQ (y_pick (s := 40) (x := 51) rfl (w_none rfl) (by simp [ev_same, ev_ne, sz_put, HA.sz, HA.e0, HA.e1, HA.e2, HG]) (by simp [ev_same, ev_ne, sz_put, HA.sz, HA.e0, HA.e1, HA.e2, HG])) ?_
        refine take_ (i := 37) (d := 53) (v := (.bool true)) rfl rfl (by kernel_rfl) (by kernel_rfl) (by kernel_rfl) hQ (y_move (s := 52) rfl (w_none rfl) (by simp [ev_same, ev_ne, sz_put, HA.sz, HA.e0, HA.e1, HA.e2, HG])) ?_
        exact hK _ _ ⟨by simp only [sz_put]; exact HA.sz, by simp only [df_put]; exact HA.df, by simp [ev_same, ev_ne, sz_put, HA.sz, HA.e0, HA.e1, HA.e2, HG], by simp [ev_same, ev_ne, sz_put, HA.sz, HA.e0, HA.e1, HA.e2, HG], by simp [ev_same, ev_ne, sz_put, HA.sz, HA.e0, HA.e1, HA.e2, HG]⟩ (by simp [ev_same, ev_ne, sz_put, HA.sz, HA.e0, HA.e1, HA.e2, HG]) W29_27_31_28_33_
      · skip
        refine op_call2 (d := 49) (s := 47) (x := 48) rfl rfl (w_some (j := 24) (t := 40) rfl rfl (by simp [ev_same, ev_ne, sz_put, HA.sz, HA.e0, HA.e1, HA.e2, HG])) rfl (fun _ _ => by go_simp) (by simp [ev_same, ev_ne, sz_put, HA.sz, HA.e0, HA.e1, HA.e2, HG]) (by simp [ev_same, ev_ne, sz_put, HA.sz, HA.e0, HA.e1, HA.e2, HG]) (HR _ _ O29_27_31_) (fun e w29_27_31_33_ he => ?_)
        obtain ⟨A2, c2, rfl, hy29_27_31_33_, hg29_27_31_33_⟩ := puts_z he
        refine ⟨_, rfl, ?_⟩
        have W29_27_31_33_ := WB.row (base := 0) W29_27_31_ O29_27_31_ hg29_27_31_33_
        have Z29_27_31_33_ := (R29_27_31_.row hL hg29_27_31_33_ (.inl rfl)).z
        refine all_ (rs := [28, 34]) (by kernel_rfl) (by simp) (fun i hi => ?_)
        simp only [List.mem_cons, List.not_mem_nil, or_false] at hi
        rcases hi with rfl | rfl
        · skip
          have hc29_27_31_33_28_ := Z29_27_31_33_.conv c1
          rw [← hS] at hc29_27_31_33_28_
          refine op_conv (d := 44) (s := 43) rfl rfl (w_some (j := 24) (t := 40) rfl rfl (by simp [ev_same, ev_ne, sz_put, HA.sz, HA.e0, HA.e1, HA.e2, HG])) rfl (by simp [ev_same, ev_ne, sz_put, HA.sz, HA.e0, HA.e1, HA.e2, HG]) hc29_27_31_33_28_ ?_
          refine all_ (rs := [34]) (by kernel_rfl) (by simp) (fun i hi => ?_)
          obtain rfl := List.mem_singleton.1 hi
          have hc29_27_31_33_28_34_ := hy29_27_31_33_.conv c2
          rw [← hS] at hc29_27_31_33_28_34_
          refine op_conv (d := 50) (s := 49) rfl rfl (w_some (j := 24) (t := 40) rfl rfl (by simp [ev_same, ev_ne, sz_put, HA.sz, HA.e0, HA.e1, HA.e2, HG])) rfl (by simp [ev_same, ev_ne, sz_put, HA.sz, HA.e0, HA.e1, HA.e2, HG]) hc29_27_31_33_28_34_ ?_
          refine take_ (i := 35) (d := 51) (v := (.bool true)) rfl rfl (by kernel_rfl) (by kernel_rfl) (by kernel_rfl) hQ (y_eql (s := 44) (x := 50) (S := S) rfl (w_some (j := 24) (t := 40) rfl rfl (by simp [ev_same, ev_ne, sz_put, HA.sz, HA.e0, HA.e1, HA.e2, HG])) (by simp [ev_same, ev_ne, sz_put, HA.sz, HA.e0, HA.e1, HA.e2, HG]) (by simp [ev_same, ev_ne, sz_put, HA.sz, HA.e0, HA.e1, HA.e2, HG])) ?_
          refine take_ (i := 36) (d := 52) (v := (.bool true)) rfl rfl (by kernel_rfl) (by kernel_rfl) (by kernel_rfl) hQ (y_pick (s := 40) (x := 51) rfl (w_none rfl) (by simp [ev_same, ev_ne, sz_put, HA.sz, HA.e0, HA.e1, HA.e2, HG]) (by simp [ev_same, ev_ne, sz_put, HA.sz, HA.e0, HA.e1, HA.e2, HG])) ?_
          refine take_ (i := 37) (d := 53) (v := (.bool true)) rfl rfl (by kernel_rfl) (by kernel_rfl) (by kernel_rfl) hQ (y_move (s := 52) rfl (w_none rfl) (by simp [ev_same, ev_ne, sz_put, HA.sz, HA.e0, HA.e1, HA.e2, HG])) ?_
          exact hK _ _ ⟨by simp only [sz_put]; exact HA.sz, by simp only [df_put]; exact HA.df, by simp [ev_same, ev_ne, sz_put, HA.sz, HA.e0, HA.e1, HA.e2, HG], by simp [ev_same, ev_ne, sz_put, HA.sz, HA.e0, HA.e1, HA.e2, HG], by simp [ev_same, ev_ne, sz_put, HA.sz, HA.e0, HA.e1, HA.e2, HG]⟩ (by simp [ev_same, ev_ne, sz_put, HA.sz, HA.e0, HA.e1, HA.e2, HG]) W29_27_31_33_
        · skip
          have hc29_27_31_33_34_ := hy29_27_31_33_.conv c2
          rw [← hS] at hc29_27_31_33_34_
          refine op_conv (d := 50) (s := 49) rfl rfl (w_some (j := 24) (t := 40) rfl rfl (by simp [ev_same, ev_ne, sz_put, HA.sz, HA.e0, HA.e1, HA.e2, HG])) rfl (by simp [ev_same, ev_ne, sz_put, HA.sz, HA.e0, HA.e1, HA.e2, HG]) hc29_27_31_33_34_ ?_
          refine all_ (rs := [28]) (by kernel_rfl) (by simp) (fun i hi => ?_)
          obtain rfl := List.mem_singleton.1 hi
          have hc29_27_31_33_34_28_ := Z29_27_31_33_.conv c1
          rw [← hS] at hc29_27_31_33_34_28_
          refine op_conv (d := 44) (s := 43) rfl rfl (w_some (j := 24) (t := 40) rfl rfl (by simp [ev_same, ev_ne, sz_put, HA.sz, HA.e0, HA.e1, HA.e2, HG])) rfl (by simp [ev_same, ev_ne, sz_put, HA.sz, HA.e0, HA.e1, HA.e2, HG]) hc29_27_31_33_34_28_ ?_
          refine take_ (i := 35) (d := 51) (v := (.bool true)) rfl rfl (by kernel_rfl) (by kernel_rfl) (by kernel_rfl) hQ (y_eql (s := 44) (x := 50) (S := S) rfl (w_some (j := 24) (t := 40) rfl rfl (by simp [ev_same, ev_ne, sz_put, HA.sz, HA.e0, HA.e1, HA.e2, HG])) (by simp [ev_same, ev_ne, sz_put, HA.sz, HA.e0, HA.e1, HA.e2, HG]) (by simp [ev_same, ev_ne, sz_put, HA.sz, HA.e0, HA.e1, HA.e2, HG])) ?_
          refine take_ (i := 36) (d := 52) (v := (.bool true)) rfl rfl (by kernel_rfl) (by kernel_rfl) (by kernel_rfl) hQ (y_pick (s := 40) (x := 51) rfl (w_none rfl) (by simp [ev_same, ev_ne, sz_put, HA.sz, HA.e0, HA.e1, HA.e2, HG]) (by simp [ev_same, ev_ne, sz_put, HA.sz, HA.e0, HA.e1, HA.e2, HG])) ?_
          refine take_ (i := 37) (d := 53) (v := (.bool true)) rfl rfl (by kernel_rfl) (by kernel_rfl) (by kernel_rfl) hQ (y_move (s := 52) rfl (w_none rfl) (by simp [ev_same, ev_ne, sz_put, HA.sz, HA.e0, HA.e1, HA.e2, HG])) ?_
          exact hK _ _ ⟨by simp only [sz_put]; exact HA.sz, by simp only [df_put]; exact HA.df, by simp [ev_same, ev_ne, sz_put, HA.sz, HA.e0, HA.e1, HA.e2, HG], by simp [ev_same, ev_ne, sz_put, HA.sz, HA.e0, HA.e1, HA.e2, HG], by simp [ev_same, ev_ne, sz_put, HA.sz, HA.e0, HA.e1, HA.e2, HG]⟩ (by simp [ev_same, ev_ne, sz_put, HA.sz, HA.e0, HA.e1, HA.e2, HG]) W29_27_31_33_
end Go.Proofs.Yteomdnmkcmgeaaa.Rg
