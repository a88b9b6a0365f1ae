/-
  The statement's region, a part of it: whatever order its operations come in, over a frame that is not written out.
-/
import Derived.Test.YteomdnmkcmgeaaaRh
set_option linter.unusedVariables false
set_option linter.unusedSimpArgs false
namespace Go.Proofs.Yteomdnmkcmgeaaa.Rg
open Go.RowKit Go.Proofs.Yteomdnmkcmgeaaa.Kit Go.Proofs.Yteomdnmkcmgeaaa.A Go.Proofs.Yteomdnmkcmgeaaa.B Go.Proofs.Yteomdnmkcmgeaaa.C Go.Proofs.Yteomdnmkcmgeaaa.R

set_option maxHeartbeats 8000000 in
theorem part1 {ops : Array Oper} {Q : Exit → Act → World → Prop} (hops : code3 = .region 3 ops true) (hQ : ∀ c (b : Act) (d : Nat) v w, Q (.panic c) (b.put (some d) v) w → Q (.panic c) b w)
    {A : Option Addr} {n cp : Nat} {b L : List UInt8} {S : ByteArray} {v1 v2 : Value} {w wa : World} {a : Act} {listed : Array Bool} (hL : 0 < L.length) (hS : S = ⟨L.toArray⟩) (hlisted : listed = #[false, false, false, false, false, false, false, false, false, false, false, false, false, false, false, false, false, false, false, false, false, false, false, false, false, false, false, false, false, false, false, false, false, false, false, false, false, false, false, false, false]) (HA : SA (.slice A n cp) v1 v2 a) (HG : True) (hW : WB w wa A n b) (hn : n ≤ 600)
    (HP : ∀ wx, WB w wx A n b → Calls Try.prog 9 #[.slice A n cp, v1] wx (PPost wx L)) (HR : ∀ wx v, wx.ownsRow w.heap.size 5 1 v n (by_ b) → Calls Try.prog 10 #[v, v1] wx (Puts wx v L))
    (hK : ∀ a' w', SA (.slice A n cp) v1 v2 a' → a'.eval (.tmp 27) = .bool true → WB w w' A n b → wpAny Try.prog .any ops Q 29 #[true, true, true, true, true, true, true, true, true, true, true, true, false, false, false, false, false, false, false, false, false, false, false, false, false, false, false, false, false, false, false, false, false, false, false, false, false, false, false, false, false] a' w') :
    wpAny Try.prog .any ops Q 41 listed a wa := by
  subst hlisted
  have hops' := hops
  unfold code3 at hops'
  conv at hops' => lhs; whnf
  injection hops' with _ hops'
  subst hops'
  clear hops
  refine take_ (i := 0) (d := 16) (v := (.slice A n cp)) rfl rfl (by kernel_rfl) (by kernel_rfl) (by kernel_rfl) hQ (y_move (s := 0) rfl (w_none rfl) (by simp [ev_same, ev_ne, sz_put, HA.sz, HA.e0, HA.e1, HA.e2, HG])) ?_
  refine take_ (i := 1) (d := 17) (v := v1) rfl rfl (by kernel_rfl) (by kernel_rfl) (by kernel_rfl) hQ (y_move (s := 1) rfl (w_none rfl) (by simp [ev_same, ev_ne, sz_put, HA.sz, HA.e0, HA.e1, HA.e2, HG])) ?_
  refine take_ (i := 5) (d := 21) (v := (.slice A n cp)) rfl rfl (by kernel_rfl) (by kernel_rfl) (by kernel_rfl) hQ (y_move (s := 0) rfl (w_none rfl) (by simp [ev_same, ev_ne, sz_put, HA.sz, HA.e0, HA.e1, HA.e2, HG])) ?_
  refine take_ (i := 7) (d := 23) (v := v1) rfl rfl (by kernel_rfl) (by kernel_rfl) (by kernel_rfl) hQ (y_move (s := 1) rfl (w_none rfl) (by simp [ev_same, ev_ne, sz_put, HA.sz, HA.e0, HA.e1, HA.e2, HG])) ?_
  refine all_ (rs := [2, 4]) (by kernel_rfl) (by simp) (fun i hi => ?_)
  simp only [List.mem_cons, List.not_mem_nil, or_false] at hi
  rcases hi with rfl | rfl
  · skip
    refine op_call2 (d := 18) (s := 16) (x := 17) rfl rfl (w_none rfl) rfl (fun _ _ => by go_simp) (by simp [ev_same, ev_ne, sz_put, HA.sz, HA.e0, HA.e1, HA.e2, HG]) (by simp [ev_same, ev_ne, sz_put, HA.sz, HA.e0, HA.e1, HA.e2, HG]) (HP _ hW) (fun e w2_ he => ?_)
    obtain ⟨A1, c1, rfl, hz2_, hb2_, hne2_⟩ := he
    refine ⟨_, rfl, ?_⟩
    have W2_ := hW.below hb2_
    refine all_ (rs := [3, 4]) (by kernel_rfl) (by simp) (fun i hi => ?_)
    simp only [List.mem_cons, List.not_mem_nil, or_false] at hi
    rcases hi with rfl | rfl
    · skip
      have hc2_3_ := hz2_.conv c1
      rw [← hS] at hc2_3_
      refine op_conv (d := 19) (s := 18) rfl rfl (w_none rfl) rfl (by simp [ev_same, ev_ne, sz_put, HA.sz, HA.e0, HA.e1, HA.e2, HG]) hc2_3_ ?_
      refine all_ (rs := [4]) (by kernel_rfl) (by simp) (fun i hi => ?_)
      obtain rfl := List.mem_singleton.1 hi
      refine op_build (d := 20) rfl rfl (w_none rfl) rfl ?_
      have W2_3_4_ := W2_.alloc (.cells #[] 5)
      have O2_3_4_ := own_none w2_ W2_.bel.size
      have z2_3_4_ := (hz2_.alloc (Nat.le_refl _) (.cells #[] 5)).more (B' := (w2_.alloc (.cells #[] 5)).heap.size) (by simp)
      have R2_3_4_ : PR (w2_.alloc (.cells #[] 5)) A1 L.length L (.slice (some ⟨w2_.heap.size, 0, none⟩) 0 0) := ⟨z2_3_4_, fun ad e he => by obtain ⟨ad', e', hlt, _⟩ := hz2_.2 hL; rw [e] at e'; injection e' with e'; subst e'; injection he with he; have he : w2_.heap.size = ad.block := he; omega⟩
      refine all_ (rs := [6]) (by kernel_rfl) (by simp) (fun i hi => ?_)
      obtain rfl := List.mem_singleton.1 hi
      obtain ⟨v2_3_4_6_, w2_3_4_6_, hr2_3_4_6_, ho2_3_4_6_, hg2_3_4_6_, hat2_3_4_6_⟩ := run_by (c := cp) 22 O2_3_4_ W2_3_4_.z (by omega) W2_3_4_.bel.size
      refine op_append (d := 22) (s := 20) (x := 21) rfl rfl (w_none rfl) rfl rfl (by simp [ev_same, ev_ne, sz_put, HA.sz, HA.e0, HA.e1, HA.e2, HG]) (by simp [ev_same, ev_ne, sz_put, HA.sz, HA.e0, HA.e1, HA.e2, HG]) hr2_3_4_6_ ?_
      have W2_3_4_6_ := WB.row (base := 0) W2_3_4_ O2_3_4_ hg2_3_4_6_
      have O2_3_4_6_ : w2_3_4_6_.ownsRow w.heap.size 5 1 v2_3_4_6_ n (by_ b) := by rw [Nat.zero_add] at ho2_3_4_6_; exact ho2_3_4_6_
      have R2_3_4_6_ := R2_3_4_.row hL hg2_3_4_6_ hat2_3_4_6_
      refine all_ (rs := [8]) (by kernel_rfl) (by simp) (fun i hi => ?_)
      obtain rfl := List.mem_singleton.1 hi
      refine op_call2 (d := 24) (s := 22) (x := 23) rfl rfl (w_none rfl) rfl (fun _ _ => by go_simp) (by simp [ev_same, ev_ne, sz_put, HA.sz, HA.e0, HA.e1, HA.e2, HG]) (by simp [ev_same, ev_ne, sz_put, HA.sz, HA.e0, HA.e1, HA.e2, HG]) (HR _ _ O2_3_4_6_) (fun e w2_3_4_6_8_ he => ?_)
      obtain ⟨A2, c2, rfl, hy2_3_4_6_8_, hg2_3_4_6_8_⟩ := puts_z he
      refine ⟨_, rfl, ?_⟩
      have W2_3_4_6_8_ := WB.row (base := 0) W2_3_4_6_ O2_3_4_6_ hg2_3_4_6_8_
      have Z2_3_4_6_8_ := (R2_3_4_6_.row hL hg2_3_4_6_8_ (.inl rfl)).z
      refine all_ (rs := [9]) (by kernel_rfl) (by simp) (fun i hi => ?_)
      obtain rfl := List.mem_singleton.1 hi
      have hc2_3_4_6_8_9_ := hy2_3_4_6_8_.conv c2
      rw [← hS] at hc2_3_4_6_8_9_
      refine op_conv (d := 25) (s := 24) rfl rfl (w_none rfl) rfl (by simp [ev_same, ev_ne, sz_put, HA.sz, HA.e0, HA.e1, HA.e2, HG]) hc2_3_4_6_8_9_ ?_
      refine take_ (i := 10) (d := 26) (v := (.bool true)) rfl rfl (by kernel_rfl) (by kernel_rfl) (by kernel_rfl) hQ (y_eql (s := 19) (x := 25) (S := S) rfl (w_none rfl) (by simp [ev_same, ev_ne, sz_put, HA.sz, HA.e0, HA.e1, HA.e2, HG]) (by simp [ev_same, ev_ne, sz_put, HA.sz, HA.e0, HA.e1, HA.e2, HG])) ?_
      refine take_ (i := 11) (d := 27) (v := (.bool true)) rfl rfl (by kernel_rfl) (by kernel_rfl) (by kernel_rfl) hQ (y_move (s := 26) rfl (w_none rfl) (by simp [ev_same, ev_ne, sz_put, HA.sz, HA.e0, HA.e1, HA.e2, HG])) ?_
      exact hK _ _ ⟨by simp only [sz_put]; exact HA.sz, by simp only [df_put]; exact HA.df, by simp [ev_same, ev_ne, sz_put, HA.sz, HA.e0, HA.e1, HA.e2, HG], by simp [ev_same, ev_ne, sz_put, HA.sz, HA.e0, HA.e1, HA.e2, HG], by simp [ev_same, ev_ne, sz_put, HA.sz, HA.e0, HA.e1, HA.e2, HG]⟩ (by simp [ev_same, ev_ne, sz_put, HA.sz, HA.e0, HA.e1, HA.e2, HG]) W2_3_4_6_8_
    · skip
      refine op_build (d := 20) rfl rfl (w_none rfl) rfl ?_
      have W2_4_ := W2_.alloc (.cells #[] 5)
      have O2_4_ := own_none w2_ W2_.bel.size
      have z2_4_ := (hz2_.alloc (Nat.le_refl _) (.cells #[] 5)).more (B' := (w2_.alloc (.cells #[] 5)).heap.size) (by simp)
      have R2_4_ : PR (w2_.alloc (.cells #[] 5)) A1 L.length L (.slice (some ⟨w2_.heap.size, 0, none⟩) 0 0) := ⟨z2_4_, fun ad e he => by obtain ⟨ad', e', hlt, _⟩ := hz2_.2 hL; rw [e] at e'; injection e' with e'; subst e'; injection he with he; have he : w2_.heap.size = ad.block := he; omega⟩
      refine all_ (rs := [3, 6]) (by kernel_rfl) (by simp) (fun i hi => ?_)
      simp only [List.mem_cons, List.not_mem_nil, or_false] at hi
      rcases hi with rfl | rfl
      · skip
        have hc2_4_3_ := z2_4_.conv c1
        rw [← hS] at hc2_4_3_
        refine op_conv (d := 19) (s := 18) rfl rfl (w_none rfl) rfl (by simp [ev_same, ev_ne, sz_put, HA.sz, HA.e0, HA.e1, HA.e2, HG]) hc2_4_3_ ?_
        refine all_ (rs := [6]) (by kernel_rfl) (by simp) (fun i hi => ?_)
        obtain rfl := List.mem_singleton.1 hi
        obtain ⟨v2_4_3_6_, w2_4_3_6_, hr2_4_3_6_, ho2_4_3_6_, hg2_4_3_6_, hat2_4_3_6_⟩ := run_by (c := cp) 22 O2_4_ W2_4_.z (by omega) W2_4_.bel.size
        refine op_append (d := 22) (s := 20) (x := 21) rfl rfl (w_none rfl) rfl rfl (by simp [ev_same, ev_ne, sz_put, HA.sz, HA.e0, HA.e1, HA.e2, HG]) (by simp [ev_same, ev_ne, sz_put, HA.sz, HA.e0, HA.e1, HA.e2, HG]) hr2_4_3_6_ ?_
        have W2_4_3_6_ := WB.row (base := 0) W2_4_ O2_4_ hg2_4_3_6_
        have O2_4_3_6_ : w2_4_3_6_.ownsRow w.heap.size 5 1 v2_4_3_6_ n (by_ b) := by rw [Nat.zero_add] at ho2_4_3_6_; exact ho2_4_3_6_
        have R2_4_3_6_ := R2_4_.row hL hg2_4_3_6_ hat2_4_3_6_
        refine all_ (rs := [8]) (by kernel_rfl) (by simp) (fun i hi => ?_)
        obtain rfl := List.mem_singleton.1 hi
        refine op_call2 (d := 24) (s := 22) (x := 23) rfl rfl (w_none rfl) rfl (fun _ _ => by go_simp) (by simp [ev_same, ev_ne, sz_put, HA.sz, HA.e0, HA.e1, HA.e2, HG]) (by simp [ev_same, ev_ne, sz_put, HA.sz, HA.e0, HA.e1, HA.e2, HG]) (HR _ _ O2_4_3_6_) (fun e w2_4_3_6_8_ he => ?_)
        obtain ⟨A2, c2, rfl, hy2_4_3_6_8_, hg2_4_3_6_8_⟩ := puts_z he
        refine ⟨_, rfl, ?_⟩
        have W2_4_3_6_8_ := WB.row (base := 0) W2_4_3_6_ O2_4_3_6_ hg2_4_3_6_8_
        have Z2_4_3_6_8_ := (R2_4_3_6_.row hL hg2_4_3_6_8_ (.inl rfl)).z
        refine all_ (rs := [9]) (by kernel_rfl) (by simp) (fun i hi => ?_)
        obtain rfl := List.mem_singleton.1 hi
        have hc2_4_3_6_8_9_ := hy2_4_3_6_8_.conv c2
        rw [← hS] at hc2_4_3_6_8_9_
        refine op_conv (d := 25) (s := 24) rfl rfl (w_none rfl) rfl (by simp [ev_same, ev_ne, sz_put, HA.sz, HA.e0, HA.e1, HA.e2, HG]) hc2_4_3_6_8_9_ ?_
        refine take_ (i := 10) (d := 26) (v := (.bool true)) rfl rfl (by kernel_rfl) (by kernel_rfl) (by kernel_rfl) hQ (y_eql (s := 19) (x := 25) (S := S) rfl (w_none rfl) (by simp [ev_same, ev_ne, sz_put, HA.sz, HA.e0, HA.e1, HA.e2, HG]) (by simp [ev_same, ev_ne, sz_put, HA.sz, HA.e0, HA.e1, HA.e2, HG])) ?_
        refine take_ (i := 11) (d := 27) (v := (.bool true)) rfl rfl (by kernel_rfl) (by kernel_rfl) (by kernel_rfl) hQ (y_move (s := 26) rfl (w_none rfl) (by simp [ev_same, ev_ne, sz_put, HA.sz, HA.e0, HA.e1, HA.e2, HG])) ?_
        exact hK _ _ ⟨by simp only [sz_put]; exact HA.sz, by simp only [df_put]; exact HA.df, by simp [ev_same, ev_ne, sz_put, HA.sz, HA.e0, HA.e1, HA.e2, HG], by simp [ev_same, ev_ne, sz_put, HA.sz, HA.e0, HA.e1, HA.e2, HG], by simp [ev_same, ev_ne, sz_put, HA.sz, HA.e0, HA.e1, HA.e2, HG]⟩ (by simp [ev_same, ev_ne, sz_put, HA.sz, HA.e0, HA.e1, HA.e2, HG]) W2_4_3_6_8_
      · skip
        obtain ⟨v2_4_6_, w2_4_6_, hr2_4_6_, ho2_4_6_, hg2_4_6_, hat2_4_6_⟩ := run_by (c := cp) 22 O2_4_ W2_4_.z (by omega) W2_4_.bel.size
        refine op_append (d := 22) (s := 20) (x := 21) rfl rfl (w_none rfl) rfl rfl (by simp [ev_same, ev_ne, sz_put, HA.sz, HA.e0, HA.e1, HA.e2, HG]) (by simp [ev_same, ev_ne, sz_put, HA.sz, HA.e0, HA.e1, HA.e2, HG]) hr2_4_6_ ?_
        have W2_4_6_ := WB.row (base := 0) W2_4_ O2_4_ hg2_4_6_
        have O2_4_6_ : w2_4_6_.ownsRow w.heap.size 5 1 v2_4_6_ n (by_ b) := by rw [Nat.zero_add] at ho2_4_6_; exact ho2_4_6_
        have R2_4_6_ := R2_4_.row hL hg2_4_6_ hat2_4_6_
        refine all_ (rs := [3, 8]) (by kernel_rfl) (by simp) (fun i hi => ?_)
        simp only [List.mem_cons, List.not_mem_nil, or_false] at hi
        rcases hi with rfl | rfl
        · skip
          have hc2_4_6_3_ := R2_4_6_.z.conv c1
          rw [← hS] at hc2_4_6_3_
          refine op_conv (d := 19) (s := 18) rfl rfl (w_none rfl) rfl (by simp [ev_same, ev_ne, sz_put, HA.sz, HA.e0, HA.e1, HA.e2, HG]) hc2_4_6_3_ ?_
          refine all_ (rs := [8]) (by kernel_rfl) (by simp) (fun i hi => ?_)
          obtain rfl := List.mem_singleton.1 hi
          refine op_call2 (d := 24) (s := 22) (x := 23) rfl rfl (w_none rfl) rfl (fun _ _ => by go_simp) (by simp [ev_same, ev_ne, sz_put, HA.sz, HA.e0, HA.e1, HA.e2, HG]) (by simp [ev_same, ev_ne, sz_put, HA.sz, HA.e0, HA.e1, HA.e2, HG]) (HR _ _ O2_4_6_) (fun e w2_4_6_3_8_ he => ?_)
          obtain ⟨A2, c2, rfl, hy2_4_6_3_8_, hg2_4_6_3_8_⟩ := puts_z he
          refine ⟨_, rfl, ?_⟩
          have W2_4_6_3_8_ := WB.row (base := 0) W2_4_6_ O2_4_6_ hg2_4_6_3_8_
          have Z2_4_6_3_8_ := (R2_4_6_.row hL hg2_4_6_3_8_ (.inl rfl)).z
          refine all_ (rs := [9]) (by kernel_rfl) (by simp) (fun i hi => ?_)
          obtain rfl := List.mem_singleton.1 hi
          have hc2_4_6_3_8_9_ := hy2_4_6_3_8_.conv c2
          rw [← hS] at hc2_4_6_3_8_9_
          refine op_conv (d := 25) (s := 24) rfl rfl (w_none rfl) rfl (by simp [ev_same, ev_ne, sz_put, HA.sz, HA.e0, HA.e1, HA.e2, HG]) hc2_4_6_3_8_9_ ?_
          refine take_ (i := 10) (d := 26) (v := (.bool true)) rfl rfl (by kernel_rfl) (by kernel_rfl) (by kernel_rfl) hQ (y_eql (s := 19) (x := 25) (S := S) rfl (w_none rfl) (by simp [ev_same, ev_ne, sz_put, HA.sz, HA.e0, HA.e1, HA.e2, HG]) (by simp [ev_same, ev_ne, sz_put, HA.sz, HA.e0, HA.e1, HA.e2, HG])) ?_
          refine take_ (i := 11) (d := 27) (v := (.bool true)) rfl rfl (by kernel_rfl) (by kernel_rfl) (by kernel_rfl) hQ (y_move (s := 26) rfl (w_none rfl) (by simp [ev_same, ev_ne, sz_put, HA.sz, HA.e0, HA.e1, HA.e2, HG])) ?_
          exact hK _ _ ⟨by simp only [sz_put]; exact HA.sz, by simp only [df_put]; exact HA.df, by simp [ev_same, ev_ne, sz_put, HA.sz, HA.e0, HA.e1, HA.e2, HG], by simp [ev_same, ev_ne, sz_put, HA.sz, HA.e0, HA.e1, HA.e2, HG], by simp [ev_same, ev_ne, sz_put, HA.sz, HA.e0, HA.e1, HA.e2, HG]⟩ (by simp [ev_same, ev_ne, sz_put, HA.sz, HA.e0, HA.e1, HA.e2, HG]) W2_4_6_3_8_
        · skip
          refine op_call2 (d := 24) (s := 22) (x := 23) rfl rfl (w_none rfl) rfl (fun _ _ => by go_simp) (by simp [ev_same, ev_ne, sz_put, HA.sz, HA.e0, HA.e1, HA.e2, HG]) (by simp [ev_same, ev_ne, sz_put, HA.sz, HA.e0, HA.e1, HA.e2, HG]) (HR _ _ O2_4_6_) (fun e w2_4_6_8_ he => ?_)
          obtain ⟨A2, c2, rfl, hy2_4_6_8_, hg2_4_6_8_⟩ := puts_z he
          refine ⟨_, rfl, ?_⟩
          have W2_4_6_8_ := WB.row (base := 0) W2_4_6_ O2_4_6_ hg2_4_6_8_
          have Z2_4_6_8_ := (R2_4_6_.row hL hg2_4_6_8_ (.inl rfl)).z
          refine all_ (rs := [3, 9]) (by kernel_rfl) (by simp) (fun i hi => ?_)
          simp only [List.mem_cons, List.not_mem_nil, or_false] at hi
          rcases hi with rfl | rfl
          · skip
            have hc2_4_6_8_3_ := Z2_4_6_8_.conv c1
            rw [← hS] at hc2_4_6_8_3_
            refine op_conv (d := 19) (s := 18) rfl rfl (w_none rfl) rfl (by simp [ev_same, ev_ne, sz_put, HA.sz, HA.e0, HA.e1, HA.e2, HG]) hc2_4_6_8_3_ ?_
            refine all_ (rs := [9]) (by kernel_rfl) (by simp) (fun i hi => ?_)
            obtain rfl := List.mem_singleton.1 hi
            have hc2_4_6_8_3_9_ := hy2_4_6_8_.conv c2
            rw [← hS] at hc2_4_6_8_3_9_
            refine op_conv (d := 25) (s := 24) rfl rfl (w_none rfl) rfl (by simp [ev_same, ev_ne, sz_put, HA.sz, HA.e0, HA.e1, HA.e2, HG]) hc2_4_6_8_3_9_ ?_
            refine take_ (i := 10) (d := 26) (v := (.bool true)) rfl rfl (by kernel_rfl) (by kernel_rfl) (by kernel_rfl) hQ (y_eql (s := 19) (x := 25) (S := S) rfl (w_none rfl) (by simp [ev_same, ev_ne, sz_put, HA.sz, HA.e0, HA.e1, HA.e2, HG]) (by simp [ev_same, ev_ne, sz_put, HA.sz, HA.e0, HA.e1, HA.e2, HG])) ?_
            refine take_ (i := 11) (d := 27) (v := (.bool true)) rfl rfl (by kernel_rfl) (by kernel_rfl) (by kernel_rfl) hQ (y_move (s := 26) rfl (w_none rfl) (by simp [ev_same, ev_ne, sz_put, HA.sz, HA.e0, HA.e1, HA.e2, HG])) ?_
            exact hK _ _ ⟨by simp only [sz_put]; exact HA.sz, by simp only [df_put]; exact HA.df, by simp [ev_same, ev_ne, sz_put, HA.sz, HA.e0, HA.e1, HA.e2, HG], by simp [ev_same, ev_ne, sz_put, HA.sz, HA.e0, HA.e1, HA.e2, HG], by simp [ev_same, ev_ne, sz_put, HA.sz, HA.e0, HA.e1, HA.e2, HG]⟩ (by simp [ev_same, ev_ne, sz_put, HA.sz, HA.e0, HA.e1, HA.e2, HG]) W2_4_6_8_
          · skip
            have hc2_4_6_8_9_ := hy2_4_6_8_.conv c2
            rw [← hS] at hc2_4_6_8_9_
            refine op_conv (d := 25) (s := 24) rfl rfl (w_none rfl) rfl (by simp [ev_same, ev_ne, sz_put, HA.sz, HA.e0, HA.e1, HA.e2, HG]) hc2_4_6_8_9_ ?_
            refine all_ (rs := [3]) (by kernel_rfl) (by simp) (fun i hi => ?_)
            obtain rfl := List.mem_singleton.1 hi
            have hc2_4_6_8_9_3_ := Z2_4_6_8_.conv c1
            rw [← hS] at hc2_4_6_8_9_3_
            refine op_conv (d := 19) (s := 18) rfl rfl (w_none rfl) rfl (by simp [ev_same, ev_ne, sz_put, HA.sz, HA.e0, HA.e1, HA.e2, HG]) hc2_4_6_8_9_3_ ?_
            refine take_ (i := 10) (d := 26) (v := (.bool true)) rfl rfl (by kernel_rfl) (by kernel_rfl) (by kernel_rfl) hQ (y_eql (s := 19) (x := 25) (S := S) rfl (w_none rfl) (by simp [ev_same, ev_ne, sz_put, HA.sz, HA.e0, HA.e1, HA.e2, HG]) (by simp [ev_same, ev_ne, sz_put, HA.sz, HA.e0, HA.e1, HA.e2, HG])) ?_
            refine take_ (i := 11) (d := 27) (v := (.bool true)) rfl rfl (by kernel_rfl) (by kernel_rfl) (by kernel_rfl) hQ (y_move (s := 26) rfl (w_none rfl) (by simp [ev_same, ev_ne, sz_put, HA.sz, HA.e0, HA.e1, HA.e2, HG])) ?_
            exact hK _ _ ⟨by simp only [sz_put]; exact HA.sz, by simp only [df_put]; exact HA.df, by simp [ev_same, ev_ne, sz_put, HA.sz, HA.e0, HA.e1, HA.e2, HG], by simp [ev_same, ev_ne, sz_put, HA.sz, HA.e0, HA.e1, HA.e2, HG], by simp [ev_same, ev_ne, sz_put, HA.sz, HA.e0, HA.e1, HA.e2, HG]⟩ (by simp [ev_same, ev_ne, sz_put, HA.sz, HA.e0, HA.e1, HA.e2, HG]) W2_4_6_8_
  · skip
    refine op_build (d := 20) rfl rfl (w_none rfl) rfl ?_
    have W4_ := hW.alloc (.cells #[] 5)
    have O4_ := own_none wa hW.bel.size
    refine all_ (rs := [2]) (by kernel_rfl) (by simp) (fun i hi => ?_)
    obtain rfl := List.mem_singleton.1 hi
    refine op_call2 (d := 18) (s := 16) (x := 17) rfl rfl (w_none rfl) rfl (fun _ _ => by go_simp) (by simp [ev_same, ev_ne, sz_put, HA.sz, HA.e0, HA.e1, HA.e2, HG]) (by simp [ev_same, ev_ne, sz_put, HA.sz, HA.e0, HA.e1, HA.e2, HG]) (HP _ W4_) (fun e w4_2_ he => ?_)
    obtain ⟨A1, c1, rfl, hz4_2_, hb4_2_, hne4_2_⟩ := he
    refine ⟨_, rfl, ?_⟩
    have W4_2_ := W4_.below hb4_2_
    have O4_2_ := O4_.kept (grown_below hb4_2_ none) (.inr (by simp [Value.ownBlock]))
    have R4_2_ : PR w4_2_ A1 L.length L (.slice (some ⟨wa.heap.size, 0, none⟩) 0 0) := ⟨hz4_2_, fun ad e he => by have h1 := (O4_.lt _ he).2; have h2 := hne4_2_ ad e hL; omega⟩
    refine all_ (rs := [3, 6]) (by kernel_rfl) (by simp) (fun i hi => ?_)
    simp only [List.mem_cons, List.not_mem_nil, or_false] at hi
    rcases hi with rfl | rfl
    · skip
      have hc4_2_3_ := hz4_2_.conv c1
      rw [← hS] at hc4_2_3_
      refine op_conv (d := 19) (s := 18) rfl rfl (w_none rfl) rfl (by simp [ev_same, ev_ne, sz_put, HA.sz, HA.e0, HA.e1, HA.e2, HG]) hc4_2_3_ ?_
      refine all_ (rs := [6]) (by kernel_rfl) (by simp) (fun i hi => ?_)
      obtain rfl := List.mem_singleton.1 hi
      obtain ⟨v4_2_3_6_, w4_2_3_6_, hr4_2_3_6_, ho4_2_3_6_, hg4_2_3_6_, hat4_2_3_6_⟩ := run_by (c := cp) 22 O4_2_ W4_2_.z (by omega) W4_2_.bel.size
      refine op_append (d := 22) (s := 20) (x := 21) rfl rfl (w_none rfl) rfl rfl (by simp [ev_same, ev_ne, sz_put, HA.sz, HA.e0, HA.e1, HA.e2, HG]) (by simp [ev_same, ev_ne, sz_put, HA.sz, HA.e0, HA.e1, HA.e2, HG]) hr4_2_3_6_ ?_
      have W4_2_3_6_ := WB.row (base := 0) W4_2_ O4_2_ hg4_2_3_6_
      have O4_2_3_6_ : w4_2_3_6_.ownsRow w.heap.size 5 1 v4_2_3_6_ n (by_ b) := by rw [Nat.zero_add] at ho4_2_3_6_; exact ho4_2_3_6_
      have R4_2_3_6_ := R4_2_.row hL hg4_2_3_6_ hat4_2_3_6_
      refine all_ (rs := [8]) (by kernel_rfl) (by simp) (fun i hi => ?_)
      obtain rfl := List.mem_singleton.1 hi
      refine op_call2 (d := 24) (s := 22) (x := 23) rfl rfl (w_none rfl) rfl (fun _ _ => by go_simp) (by simp [ev_same, ev_ne, sz_put, HA.sz, HA.e0, HA.e1, HA.e2, HG]) (by simp [ev_same, ev_ne, sz_put, HA.sz, HA.e0, HA.e1, HA.e2, HG]) (HR _ _ O4_2_3_6_) (fun e w4_2_3_6_8_ he => ?_)
      obtain ⟨A2, c2, rfl, hy4_2_3_6_8_, hg4_2_3_6_8_⟩ := puts_z he
      refine ⟨_, rfl, ?_⟩
      have W4_2_3_6_8_ := WB.row (base := 0) W4_2_3_6_ O4_2_3_6_ hg4_2_3_6_8_
      have Z4_2_3_6_8_ := (R4_2_3_6_.row hL hg4_2_3_6_8_ (.inl rfl)).z
      refine all_ (rs := [9]) (by kernel_rfl) (by simp) (fun i hi => ?_)
      obtain rfl := List.mem_singleton.1 hi
      have hc4_2_3_6_8_9_ := hy4_2_3_6_8_.conv c2
      rw [← hS] at hc4_2_3_6_8_9_
      refine op_conv (d := 25) (s := 24) rfl rfl (w_none rfl) rfl (by simp [ev_same, ev_ne, sz_put, HA.sz, HA.e0, HA.e1, HA.e2, HG]) hc4_2_3_6_8_9_ ?_
      refine take_ (i := 10) (d := 26) (v := (.bool true)) rfl rfl (by kernel_rfl) (by kernel_rfl) (by kernel_rfl) hQ (y_eql (s := 19) (x := 25) (S := S) rfl (w_none rfl) (by simp [ev_same, ev_ne, sz_put, HA.sz, HA.e0, HA.e1, HA.e2, HG]) (by simp [ev_same, ev_ne, sz_put, HA.sz, HA.e0, HA.e1, HA.e2, HG])) ?_
      refine take_ (i := 11) (d := 27) (v := (.bool true)) rfl rfl (by kernel_rfl) (by kernel_rfl) (by kernel_rfl) hQ (y_move (s := 26) rfl (w_none rfl) (by simp [ev_same, ev_ne, sz_put, HA.sz, HA.e0, HA.e1, HA.e2, HG])) ?_
      exact hK _ _ ⟨by simp only [sz_put]; exact HA.sz, by simp only [df_put]; exact HA.df, by simp [ev_same, ev_ne, sz_put, HA.sz, HA.e0, HA.e1, HA.e2, HG], by simp [ev_same, ev_ne, sz_put, HA.sz, HA.e0, HA.e1, HA.e2, HG], by simp [ev_same, ev_ne, sz_put, HA.sz, HA.e0, HA.e1, HA.e2, HG]⟩ (by simp [ev_same, ev_ne, sz_put, HA.sz, HA.e0, HA.e1, HA.e2, HG]) W4_2_3_6_8_
    · skip
      obtain ⟨v4_2_6_, w4_2_6_, hr4_2_6_, ho4_2_6_, hg4_2_6_, hat4_2_6_⟩ := run_by (c := cp) 22 O4_2_ W4_2_.z (by omega) W4_2_.bel.size
      refine op_append (d := 22) (s := 20) (x := 21) rfl rfl (w_none rfl) rfl rfl (by simp [ev_same, ev_ne, sz_put, HA.sz, HA.e0, HA.e1, HA.e2, HG]) (by simp [ev_same, ev_ne, sz_put, HA.sz, HA.e0, HA.e1, HA.e2, HG]) hr4_2_6_ ?_
      have W4_2_6_ := WB.row (base := 0) W4_2_ O4_2_ hg4_2_6_
      have O4_2_6_ : w4_2_6_.ownsRow w.heap.size 5 1 v4_2_6_ n (by_ b) := by rw [Nat.zero_add] at ho4_2_6_; exact ho4_2_6_
      have R4_2_6_ := R4_2_.row hL hg4_2_6_ hat4_2_6_
      refine all_ (rs := [3, 8]) (by kernel_rfl) (by simp) (fun i hi => ?_)
      simp only [List.mem_cons, List.not_mem_nil, or_false] at hi
      rcases hi with rfl | rfl
      · skip
        have hc4_2_6_3_ := R4_2_6_.z.conv c1
        rw [← hS] at hc4_2_6_3_
        refine op_conv (d := 19) (s := 18) rfl rfl (w_none rfl) rfl (by simp [ev_same, ev_ne, sz_put, HA.sz, HA.e0, HA.e1, HA.e2, HG]) hc4_2_6_3_ ?_
        refine all_ (rs := [8]) (by kernel_rfl) (by simp) (fun i hi => ?_)
        obtain rfl := List.mem_singleton.1 hi
        refine op_call2 (d := 24) (s := 22) (x := 23) rfl rfl (w_none rfl) rfl (fun _ _ => by go_simp) (by simp [ev_same, ev_ne, sz_put, HA.sz, HA.e0, HA.e1, HA.e2, HG]) (by simp [ev_same, ev_ne, sz_put, HA.sz, HA.e0, HA.e1, HA.e2, HG]) (HR _ _ O4_2_6_) (fun e w4_2_6_3_8_ he => ?_)
        obtain ⟨A2, c2, rfl, hy4_2_6_3_8_, hg4_2_6_3_8_⟩ := puts_z he
        refine ⟨_, rfl, ?_⟩
        have W4_2_6_3_8_ := WB.row (base := 0) W4_2_6_ O4_2_6_ hg4_2_6_3_8_
        have Z4_2_6_3_8_ := (R4_2_6_.row hL hg4_2_6_3_8_ (.inl rfl)).z
        refine all_ (rs := [9]) (by kernel_rfl) (by simp) (fun i hi => ?_)
        obtain rfl := List.mem_singleton.1 hi
        have hc4_2_6_3_8_9_ := hy4_2_6_3_8_.conv c2
        rw [← hS] at hc4_2_6_3_8_9_
        refine op_conv (d := 25) (s := 24) rfl rfl (w_none rfl) rfl (by simp [ev_same, ev_ne, sz_put, HA.sz, HA.e0, HA.e1, HA.e2, HG]) hc4_2_6_3_8_9_ ?_
        refine take_ (i := 10) (d := 26) (v := (.bool true)) rfl rfl (by kernel_rfl) (by kernel_rfl) (by kernel_rfl) hQ (y_eql (s := 19) (x := 25) (S := S) rfl (w_none rfl) (by simp [ev_same, ev_ne, sz_put, HA.sz, HA.e0, HA.e1, HA.e2, HG]) (by simp [ev_same, ev_ne, sz_put, HA.sz, HA.e0, HA.e1, HA.e2, HG])) ?_
        refine take_ (i := 11) (d := 27) (v := (.bool true)) rfl rfl (by kernel_rfl) (by kernel_rfl) (by kernel_rfl) hQ (y_move (s := 26) rfl (w_none rfl) (by simp [ev_same, ev_ne, sz_put, HA.sz, HA.e0, HA.e1, HA.e2, HG])) ?_
        exact hK _ _ ⟨by simp only [sz_put]; exact HA.sz, by simp only [df_put]; exact HA.df, by simp [ev_same, ev_ne, sz_put, HA.sz, HA.e0, HA.e1, HA.e2, HG], by simp [ev_same, ev_ne, sz_put, HA.sz, HA.e0, HA.e1, HA.e2, HG], by simp [ev_same, ev_ne, sz_put, HA.sz, HA.e0, HA.e1, HA.e2, HG]⟩ (by simp [ev_same, ev_ne, sz_put, HA.sz, HA.e0, HA.e1, HA.e2, HG]) W4_2_6_3_8_
      · skip
        refine op_call2 (d := 24) (s := 22) (x := 23) rfl rfl (w_none rfl) rfl (fun _ _ => by go_simp) (by simp [ev_same, ev_ne, sz_put, HA.sz, HA.e0, HA.e1, HA.e2, HG]) (by simp [ev_same, ev_ne, sz_put, HA.sz, HA.e0, HA.e1, HA.e2, HG]) (HR _ _ O4_2_6_) (fun e w4_2_6_8_ he => ?_)
        obtain ⟨A2, c2, rfl, hy4_2_6_8_, hg4_2_6_8_⟩ := puts_z he
        refine ⟨_, rfl, ?_⟩
        have W4_2_6_8_ := WB.row (base := 0) W4_2_6_ O4_2_6_ hg4_2_6_8_
        have Z4_2_6_8_ := (R4_2_6_.row hL hg4_2_6_8_ (.inl rfl)).z
        refine all_ (rs := [3, 9]) (by kernel_rfl) (by simp) (fun i hi => ?_)
        simp only [List.mem_cons, List.not_mem_nil, or_false] at hi
        rcases hi with rfl | rfl
        · skip
          have hc4_2_6_8_3_ := Z4_2_6_8_.conv c1
          rw [← hS] at hc4_2_6_8_3_
          refine op_conv (d := 19) (s := 18) rfl rfl (w_none rfl) rfl (by simp [ev_same, ev_ne, sz_put, HA.sz, HA.e0, HA.e1, HA.e2, HG]) hc4_2_6_8_3_ ?_
          refine all_ (rs := [9]) (by kernel_rfl) (by simp) (fun i hi => ?_)
          obtain rfl := List.mem_singleton.1 hi
          have hc4_2_6_8_3_9_ := hy4_2_6_8_.conv c2
          rw [← hS] at hc4_2_6_8_3_9_
          refine op_conv (d := 25) (s := 24) rfl rfl (w_none rfl) rfl (by simp [ev_same, ev_ne, sz_put, HA.sz, HA.e0, HA.e1, HA.e2, HG]) hc4_2_6_8_3_9_ ?_
          refine take_ (i := 10) (d := 26) (v := (.bool true)) rfl rfl (by kernel_rfl) (by kernel_rfl) (by kernel_rfl) hQ (y_eql (s := 19) (x := 25) (S := S) rfl (w_none rfl) (by simp [ev_same, ev_ne, sz_put, HA.sz, HA.e0, HA.e1, HA.e2, HG]) (by simp [ev_same, ev_ne, sz_put, HA.sz, HA.e0, HA.e1, HA.e2, HG])) ?_
          refine take_ (i := 11) (d := 27) (v := (.bool true)) rfl rfl (by kernel_rfl) (by kernel_rfl) (by kernel_rfl) hQ (y_move (s := 26) rfl (w_none rfl) (by simp [ev_same, ev_ne, sz_put, HA.sz, HA.e0, HA.e1, HA.e2, HG])) ?_
          exact hK _ _ ⟨by simp only [sz_put]; exact HA.sz, by simp only [df_put]; exact HA.df, by simp [ev_same, ev_ne, sz_put, HA.sz, HA.e0, HA.e1, HA.e2, HG], by simp [ev_same, ev_ne, sz_put, HA.sz, HA.e0, HA.e1, HA.e2, HG], by simp [ev_same, ev_ne, sz_put, HA.sz, HA.e0, HA.e1, HA.e2, HG]⟩ (by simp [ev_same, ev_ne, sz_put, HA.sz, HA.e0, HA.e1, HA.e2, HG]) W4_2_6_8_
        · skip
          have hc4_2_6_8_9_ := hy4_2_6_8_.conv c2
          rw [← hS] at hc4_2_6_8_9_
          refine op_conv (d := 25) (s := 24) rfl rfl (w_none rfl) rfl (by simp [ev_same, ev_ne, sz_put, HA.sz, HA.e0, HA.e1, HA.e2, HG]) hc4_2_6_8_9_ ?_
          refine all_ (rs := [3]) (by kernel_rfl) (by simp) (fun i hi => ?_)
          obtain rfl := List.mem_singleton.1 hi
          have hc4_2_6_8_9_3_ := Z4_2_6_8_.conv c1
          rw [← hS] at hc4_2_6_8_9_3_
          refine op_conv (d := 19) (s := 18) rfl rfl (w_none rfl) rfl (by simp [ev_same, ev_ne, sz_put, HA.sz, HA.e0, HA.e1, HA.e2, HG]) hc4_2_6_8_9_3_ ?_
          refine take_ (i := 10) (d := 26) (v := (.bool true)) rfl rfl (by kernel_rfl) (by kernel_rfl) (by kernel_rfl) hQ (y_eql (s := 19) (x := 25) (S := S) rfl (w_none rfl) (by simp [ev_same, ev_ne, sz_put, HA.sz, HA.e0, HA.e1, HA.e2, HG]) (by simp [ev_same, ev_ne, sz_put, HA.sz, HA.e0, HA.e1, HA.e2, HG])) ?_
          refine take_ (i := 11) (d := 27) (v := (.bool true)) rfl rfl (by kernel_rfl) (by kernel_rfl) (by kernel_rfl) hQ (y_move (s := 26) rfl (w_none rfl) (by simp [ev_same, ev_ne, sz_put, HA.sz, HA.e0, HA.e1, HA.e2, HG])) ?_
          exact hK _ _ ⟨by simp only [sz_put]; exact HA.sz, by simp only [df_put]; exact HA.df, by simp [ev_same, ev_ne, sz_put, HA.sz, HA.e0, HA.e1, HA.e2, HG], by simp [ev_same, ev_ne, sz_put, HA.sz, HA.e0, HA.e1, HA.e2, HG], by simp [ev_same, ev_ne, sz_put, HA.sz, HA.e0, HA.e1, HA.e2, HG]⟩ (by simp [ev_same, ev_ne, sz_put, HA.sz, HA.e0, HA.e1, HA.e2, HG]) W4_2_6_8_

set_option maxHeartbeats 4000000 in
theorem part4 {ops : Array Oper} {Q : Exit → Act → World → Prop} (hops : code3 = .region 3 ops true) (hQ : ∀ c (b : Act) (d : Nat) v w, Q (.panic c) (b.put (some d) v) w → Q (.panic c) b w)
    {A : Option Addr} {n cp : Nat} {b : List UInt8} {v1 v2 : Value} {w wa : World} {a : Act} {listed : Array Bool} (hlisted : listed = #[true, true, true, true, true, true, true, true, true, true, true, true, true, true, true, true, true, true, true, true, true, true, true, true, true, true, true, true, true, true, true, true, true, true, true, true, true, true, false, false, false]) (HA : SA (.slice A n cp) v1 v2 a) (HG : a.eval (.tmp 53) = .bool true) (hW : WB w wa A n b)
    (hK : ∀ (a' : Act) w', a'.tmps.size = 56 → a'.defers = [] → a'.eval (.tmp 6) = .bool true → Below w.heap.size w w' → Q .normal a' w') :
    wpAny Try.prog .any ops Q 3 listed a wa := by
  subst hlisted
  have hops' := hops
  unfold code3 at hops'
  conv at hops' => lhs; whnf
  injection hops' with _ hops'
  subst hops'
  clear hops
  refine all_ (rs := [38]) (by kernel_rfl) (by simp) (fun i hi => ?_)
  obtain rfl := List.mem_singleton.1 hi
  refine op_call0 (d := 54) rfl rfl (w_some (j := 37) (t := 53) rfl rfl (by simp [ev_same, ev_ne, sz_put, HA.sz, HA.e0, HA.e1, HA.e2, HG])) rfl (fun _ _ => by go_simp) (H.awake wa) (fun e w' he => ?_)
  obtain ⟨rfl, hb⟩ := he
  refine ⟨_, rfl, ?_⟩
  refine take_ (i := 39) (d := 55) (v := (.bool true)) rfl rfl (by kernel_rfl) (by kernel_rfl) (by kernel_rfl) hQ (y_pick (s := 53) (x := 54) rfl (w_none rfl) (by simp [ev_same, ev_ne, sz_put, HA.sz, HA.e0, HA.e1, HA.e2, HG]) (by simp [ev_same, ev_ne, sz_put, HA.sz, HA.e0, HA.e1, HA.e2, HG])) ?_
  refine take_ (i := 40) (d := 6) (v := (.bool true)) rfl rfl (by kernel_rfl) (by kernel_rfl) (by kernel_rfl) hQ (y_assign (s := 55) rfl (w_none rfl) (by simp [ev_same, ev_ne, sz_put, HA.sz, HA.e0, HA.e1, HA.e2, HG])) ?_
  refine wpAny_done (by kernel_rfl) ?_ _
  exact hK _ _ (by simp only [sz_put]; exact HA.sz) (by simp only [df_put]; exact HA.df) (by simp [ev_same, ev_ne, sz_put, HA.sz, HA.e0, HA.e1, HA.e2, HG]) (hW.bel.trans (hb.mono hW.bel.size))
end Go.Proofs.Yteomdnmkcmgeaaa.Rg
