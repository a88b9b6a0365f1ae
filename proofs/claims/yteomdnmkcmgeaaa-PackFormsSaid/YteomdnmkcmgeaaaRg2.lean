/-
  The statement's region, a part of it: whatever order its operations come in, over a frame that is not written out.
-/
import Derived.Test.YteomdnmkcmgeaaaRh
set_option linter.unusedVariables false
set_option linter.unusedSimpArgs false
namespace Go.Proofs.Yteomdnmkcmgeaaa.Rg
open Go.RowKit Go.Proofs.Yteomdnmkcmgeaaa.Kit Go.Proofs.Yteomdnmkcmgeaaa.A Go.Proofs.Yteomdnmkcmgeaaa.B Go.Proofs.Yteomdnmkcmgeaaa.C Go.Proofs.Yteomdnmkcmgeaaa.R

set_option maxHeartbeats 8000000 in
theorem part2 {ops : Array Oper} {Q : Exit → Act → World → Prop} (hops : code3 = .region 3 ops true) (hQ : ∀ c (b : Act) (d : Nat) v w, Q (.panic c) (b.put (some d) v) w → Q (.panic c) b w)
    {A : Option Addr} {n cp : Nat} {b L : List UInt8} {S : ByteArray} {v1 v2 : Value} {w wa : World} {a : Act} {listed : Array Bool} (hL : 0 < L.length) (hS : S = ⟨L.toArray⟩) (hlisted : listed = #[true, true, true, true, true, true, true, true, true, true, true, true, false, false, false, false, false, false, false, false, false, false, false, false, false, false, false, false, false, false, false, false, false, false, false, false, false, false, false, false, false]) (HA : SA (.slice A n cp) v1 v2 a) (HG : a.eval (.tmp 27) = .bool true) (hW : WB w wa A n b) (hn : n ≤ 600)
    (HP : ∀ wx, WB w wx A n b → Calls Try.prog 11 #[.slice A n cp, v2] wx (PPost wx L)) (HR : ∀ wx v, wx.ownsRow w.heap.size 5 1 v n (by_ b) → Calls Try.prog 12 #[v, v2] wx (Puts wx v L))
    (hK : ∀ a' w', SA (.slice A n cp) v1 v2 a' → a'.eval (.tmp 40) = .bool true → WB w w' A n b → wpAny Try.prog .any ops Q 16 #[true, true, true, true, true, true, true, true, true, true, true, true, true, true, true, true, true, true, true, true, true, true, true, true, true, false, false, false, false, false, false, false, false, false, false, false, false, false, false, false, false] a' w') :
    wpAny Try.prog .any ops Q 29 listed a wa := by
  subst hlisted
  have hops' := hops
  unfold code3 at hops'
  conv at hops' => lhs; whnf
  injection hops' with _ hops'
  subst hops'
  clear hops
  refine take_ (i := 12) (d := 28) (v := (.slice A n cp)) rfl rfl (by kernel_rfl) (by kernel_rfl) (by kernel_rfl) hQ (y_move (s := 0) rfl (w_some (j := 11) (t := 27) rfl rfl (by simp [ev_same, ev_ne, sz_put, HA.sz, HA.e0, HA.e1, HA.e2, HG])) (by simp [ev_same, ev_ne, sz_put, HA.sz, HA.e0, HA.e1, HA.e2, HG])) ?_
  refine take_ (i := 13) (d := 29) (v := v2) rfl rfl (by kernel_rfl) (by kernel_rfl) (by kernel_rfl) hQ (y_move (s := 2) rfl (w_some (j := 11) (t := 27) rfl rfl (by simp [ev_same, ev_ne, sz_put, HA.sz, HA.e0, HA.e1, HA.e2, HG])) (by simp [ev_same, ev_ne, sz_put, HA.sz, HA.e0, HA.e1, HA.e2, HG])) ?_
  refine take_ (i := 17) (d := 33) (v := (.slice A n cp)) rfl rfl (by kernel_rfl) (by kernel_rfl) (by kernel_rfl) hQ (y_move (s := 0) rfl (w_some (j := 11) (t := 27) rfl rfl (by simp [ev_same, ev_ne, sz_put, HA.sz, HA.e0, HA.e1, HA.e2, HG])) (by simp [ev_same, ev_ne, sz_put, HA.sz, HA.e0, HA.e1, HA.e2, HG])) ?_
  refine take_ (i := 19) (d := 35) (v := v2) rfl rfl (by kernel_rfl) (by kernel_rfl) (by kernel_rfl) hQ (y_move (s := 2) rfl (w_some (j := 11) (t := 27) rfl rfl (by simp [ev_same, ev_ne, sz_put, HA.sz, HA.e0, HA.e1, HA.e2, HG])) (by simp [ev_same, ev_ne, sz_put, HA.sz, HA.e0, HA.e1, HA.e2, HG])) ?_
  refine all_ (rs := [14, 16]) (by kernel_rfl) (by simp) (fun i hi => ?_)
  simp only [List.mem_cons, List.not_mem_nil, or_false] at hi
  rcases hi with rfl | rfl
  · skip
    refine op_call2 (d := 30) (s := 28) (x := 29) rfl rfl (w_some (j := 11) (t := 27) rfl rfl (by simp [ev_same, ev_ne, sz_put, HA.sz, HA.e0, HA.e1, HA.e2, HG])) rfl (fun _ _ => by go_simp) (by simp [ev_same, ev_ne, sz_put, HA.sz, HA.e0, HA.e1, HA.e2, HG]) (by simp [ev_same, ev_ne, sz_put, HA.sz, HA.e0, HA.e1, HA.e2, HG]) (HP _ hW) (fun e w14_ he => ?_)
    obtain ⟨A1, c1, rfl, hz14_, hb14_, hne14_⟩ := he
    refine ⟨_, rfl, ?_⟩
    have W14_ := hW.below hb14_
    refine all_ (rs := [15, 16]) (by kernel_rfl) (by simp) (fun i hi => ?_)
    simp only [List.mem_cons, List.not_mem_nil, or_false] at hi
    rcases hi with rfl | rfl
    · skip
      have hc14_15_ := hz14_.conv c1
      rw [← hS] at hc14_15_
      refine op_conv (d := 31) (s := 30) rfl rfl (w_some (j := 11) (t := 27) rfl rfl (by simp [ev_same, ev_ne, sz_put, HA.sz, HA.e0, HA.e1, HA.e2, HG])) rfl (by simp [ev_same, ev_ne, sz_put, HA.sz, HA.e0, HA.e1, HA.e2, HG]) hc14_15_ ?_
      refine all_ (rs := [16]) (by kernel_rfl) (by simp) (fun i hi => ?_)
      obtain rfl := List.mem_singleton.1 hi
      refine op_build (d := 32) rfl rfl (w_some (j := 11) (t := 27) rfl rfl (by simp [ev_same, ev_ne, sz_put, HA.sz, HA.e0, HA.e1, HA.e2, HG])) rfl ?_
      have W14_15_16_ := W14_.alloc (.cells #[] 5)
      have O14_15_16_ := own_none w14_ W14_.bel.size
      have z14_15_16_ := (hz14_.alloc (Nat.le_refl _) (.cells #[] 5)).more (B' := (w14_.alloc (.cells #[] 5)).heap.size) (by simp)
      have R14_15_16_ : PR (w14_.alloc (.cells #[] 5)) A1 L.length L (.slice (some ⟨w14_.heap.size, 0, none⟩) 0 0) := ⟨z14_15_16_, fun ad e he => by obtain ⟨ad', e', hlt, _⟩ := hz14_.2 hL; rw [e] at e'; injection e' with e'; subst e'; injection he with he; have he : w14_.heap.size = ad.block := he; omega⟩
      refine all_ (rs := [18]) (by kernel_rfl) (by simp) (fun i hi => ?_)
      obtain rfl := List.mem_singleton.1 hi
      obtain ⟨v14_15_16_18_, w14_15_16_18_, hr14_15_16_18_, ho14_15_16_18_, hg14_15_16_18_, hat14_15_16_18_⟩ := run_by (c := cp) 22 O14_15_16_ W14_15_16_.z (by omega) W14_15_16_.bel.size
      refine op_append (d := 34) (s := 32) (x := 33) rfl rfl (w_some (j := 11) (t := 27) rfl rfl (by simp [ev_same, ev_ne, sz_put, HA.sz, HA.e0, HA.e1, HA.e2, HG])) rfl rfl (by simp [ev_same, ev_ne, sz_put, HA.sz, HA.e0, HA.e1, HA.e2, HG]) (by simp [ev_same, ev_ne, sz_put, HA.sz, HA.e0, HA.e1, HA.e2, HG]) hr14_15_16_18_ ?_
      have W14_15_16_18_ := WB.row (base := 0) W14_15_16_ O14_15_16_ hg14_15_16_18_
      have O14_15_16_18_ : w14_15_16_18_.ownsRow w.heap.size 5 1 v14_15_16_18_ n (by_ b) := by rw [Nat.zero_add] at ho14_15_16_18_; exact ho14_15_16_18_
      have R14_15_16_18_ := R14_15_16_.row hL hg14_15_16_18_ hat14_15_16_18_
      refine all_ (rs := [20]) (by kernel_rfl) (by simp) (fun i hi => ?_)
      obtain rfl := List.mem_singleton.1 hi
      refine op_call2 (d := 36) (s := 34) (x := 35) rfl rfl (w_some (j := 11) (t := 27) rfl rfl (by simp [ev_same, ev_ne, sz_put, HA.sz, HA.e0, HA.e1, HA.e2, HG])) rfl (fun _ _ => by go_simp) (by simp [ev_same, ev_ne, sz_put, HA.sz, HA.e0, HA.e1, HA.e2, HG]) (by simp [ev_same, ev_ne, sz_put, HA.sz, HA.e0, HA.e1, HA.e2, HG]) (HR _ _ O14_15_16_18_) (fun e w14_15_16_18_20_ he => ?_)
      obtain ⟨A2, c2, rfl, hy14_15_16_18_20_, hg14_15_16_18_20_⟩ := puts_z he
      refine ⟨_, rfl, ?_⟩
      have W14_15_16_18_20_ := WB.row (base := 0) W14_15_16_18_ O14_15_16_18_ hg14_15_16_18_20_
      have Z14_15_16_18_20_ := (R14_15_16_18_.row hL hg14_15_16_18_20_ (.inl rfl)).z
      refine all_ (rs := [21]) (by kernel_rfl) (by simp) (fun i hi => ?_)
      obtain rfl := List.mem_singleton.1 hi
      have hc14_15_16_18_20_21_ := hy14_15_16_18_20_.conv c2
      rw [← hS] at hc14_15_16_18_20_21_
      refine op_conv (d := 37) (s := 36) rfl rfl (w_some (j := 11) (t := 27) rfl rfl (by simp [ev_same, ev_ne, sz_put, HA.sz, HA.e0, HA.e1, HA.e2, HG])) rfl (by simp [ev_same, ev_ne, sz_put, HA.sz, HA.e0, HA.e1, HA.e2, HG]) hc14_15_16_18_20_21_ ?_
      refine take_ (i := 22) (d := 38) (v := (.bool true)) rfl rfl (by kernel_rfl) (by kernel_rfl) (by kernel_rfl) hQ (y_eql (s := 31) (x := 37) (S := S) rfl (w_some (j := 11) (t := 27) rfl rfl (by simp [ev_same, ev_ne, sz_put, HA.sz, HA.e0, HA.e1, HA.e2, HG])) (by simp [ev_same, ev_ne, sz_put, HA.sz, HA.e0, HA.e1, HA.e2, HG]) (by simp [ev_same, ev_ne, sz_put, HA.sz, HA.e0, HA.e1, HA.e2, HG])) ?_
      refine take_ (i := 23) (d := 39) (v := (.bool true)) rfl rfl (by kernel_rfl) (by kernel_rfl) (by kernel_rfl) hQ (y_pick (s := 27) (x := 38) rfl (w_none rfl) (by simp [ev_same, ev_ne, sz_put, HA.sz, HA.e0, HA.e1, HA.e2, HG]) (by simp [ev_same, ev_ne, sz_put, HA.sz, HA.e0, HA.e1, HA.e2, HG])) ?_
      refine take_ (i := 24) (d := 40) (v := (.bool true)) rfl rfl (by kernel_rfl) (by kernel_rfl) (by kernel_rfl) hQ (y_move (s := 39) rfl (w_none rfl) (by simp [ev_same, ev_ne, sz_put, HA.sz, HA.e0, HA.e1, HA.e2, HG])) ?_
      exact hK _ _ ⟨by simp only [sz_put]; exact HA.sz, by simp only [df_put]; exact HA.df, by simp [ev_same, ev_ne, sz_put, HA.sz, HA.e0, HA.e1, HA.e2, HG], by simp [ev_same, ev_ne, sz_put, HA.sz, HA.e0, HA.e1, HA.e2, HG], by simp [ev_same, ev_ne, sz_put, HA.sz, HA.e0, HA.e1, HA.e2, HG]⟩ (by simp [ev_same, ev_ne, sz_put, HA.sz, HA.e0, HA.e1, HA.e2, HG]) W14_15_16_18_20_
    · skip
      refine op_build (d := 32) rfl rfl (w_some (j := 11) (t := 27) rfl rfl (by simp [ev_same, ev_ne, sz_put, HA.sz, HA.e0, HA.e1, HA.e2, HG])) rfl ?_
      have W14_16_ := W14_.alloc (.cells #[] 5)
      have O14_16_ := own_none w14_ W14_.bel.size
      have z14_16_ := (hz14_.alloc (Nat.le_refl _) (.cells #[] 5)).more (B' := (w14_.alloc (.cells #[] 5)).heap.size) (by simp)
      have R14_16_ : PR (w14_.alloc (.cells #[] 5)) A1 L.length L (.slice (some ⟨w14_.heap.size, 0, none⟩) 0 0) := ⟨z14_16_, fun ad e he => by obtain ⟨ad', e', hlt, _⟩ := hz14_.2 hL; rw [e] at e'; injection e' with e'; subst e'; injection he with he; have he : w14_.heap.size = ad.block := he; omega⟩
      refine all_ (rs := [15, 18]) (by kernel_rfl) (by simp) (fun i hi => ?_)
      simp only [List.mem_cons, List.not_mem_nil, or_false] at hi
      rcases hi with rfl | rfl
      · skip
        have hc14_16_15_ := z14_16_.conv c1
        rw [← hS] at hc14_16_15_
        refine op_conv (d := 31) (s := 30) rfl rfl (w_some (j := 11) (t := 27) rfl rfl (by simp [ev_same, ev_ne, sz_put, HA.sz, HA.e0, HA.e1, HA.e2, HG])) rfl (by simp [ev_same, ev_ne, sz_put, HA.sz, HA.e0, HA.e1, HA.e2, HG]) hc14_16_15_ ?_
        refine all_ (rs := [18]) (by kernel_rfl) (by simp) (fun i hi => ?_)
        obtain rfl := List.mem_singleton.1 hi
        obtain ⟨v14_16_15_18_, w14_16_15_18_, hr14_16_15_18_, ho14_16_15_18_, hg14_16_15_18_, hat14_16_15_18_⟩ := run_by (c := cp) 22 O14_16_ W14_16_.z (by omega) W14_16_.bel.size
        refine op_append (d := 34) (s := 32) (x := 33) rfl rfl (w_some (j := 11) (t := 27) rfl rfl (by simp [ev_same, ev_ne, sz_put, HA.sz, HA.e0, HA.e1, HA.e2, HG])) rfl rfl (by simp [ev_same, ev_ne, sz_put, HA.sz, HA.e0, HA.e1, HA.e2, HG]) (by simp [ev_same, ev_ne, sz_put, HA.sz, HA.e0, HA.e1, HA.e2, HG]) hr14_16_15_18_ ?_
        have W14_16_15_18_ := WB.row (base := 0) W14_16_ O14_16_ hg14_16_15_18_
        have O14_16_15_18_ : w14_16_15_18_.ownsRow w.heap.size 5 1 v14_16_15_18_ n (by_ b) := by rw [Nat.zero_add] at ho14_16_15_18_; exact ho14_16_15_18_
        have R14_16_15_18_ := R14_16_.row hL hg14_16_15_18_ hat14_16_15_18_
        refine all_ (rs := [20]) (by kernel_rfl) (by simp) (fun i hi => ?_)
        obtain rfl := List.mem_singleton.1 hi
        refine op_call2 (d := 36) (s := 34) (x := 35) rfl rfl (w_some (j := 11) (t := 27) rfl rfl (by simp [ev_same, ev_ne, sz_put, HA.sz, HA.e0, HA.e1, HA.e2, HG])) rfl (fun _ _ => by go_simp) (by simp [ev_same, ev_ne, sz_put, HA.sz, HA.e0, HA.e1, HA.e2, HG]) (by simp [ev_same, ev_ne, sz_put, HA.sz, HA.e0, HA.e1, HA.e2, HG]) (HR _ _ O14_16_15_18_) (fun e w14_16_15_18_20_ he => ?_)
        obtain ⟨A2, c2, rfl, hy14_16_15_18_20_, hg14_16_15_18_20_⟩ := puts_z he
        refine ⟨_, rfl, ?_⟩
        have W14_16_15_18_20_ := WB.row (base := 0) W14_16_15_18_ O14_16_15_18_ hg14_16_15_18_20_
        have Z14_16_15_18_20_ := (R14_16_15_18_.row hL hg14_16_15_18_20_ (.inl rfl)).z
        refine all_ (rs := [21]) (by kernel_rfl) (by simp) (fun i hi => ?_)
        obtain rfl := List.mem_singleton.1 hi
        have hc14_16_15_18_20_21_ := hy14_16_15_18_20_.conv c2
        rw [← hS] at hc14_16_15_18_20_21_
        refine op_conv (d := 37) (s := 36) rfl rfl (w_some (j := 11) (t := 27) rfl rfl (by simp [ev_same, ev_ne, sz_put, HA.sz, HA.e0, HA.e1, HA.e2, HG])) rfl (by simp [ev_same, ev_ne, sz_put, HA.sz, HA.e0, HA.e1, HA.e2, HG]) hc14_16_15_18_20_21_ ?_
        refine take_ (i := 22) (d := 38) (v := (.bool true)) rfl rfl (by kernel_rfl) (by kernel_rfl) (by kernel_rfl) hQ (y_eql (s := 31) (x := 37) (S := S) rfl (w_some (j := 11) (t := 27) rfl rfl (by simp [ev_same, ev_ne, sz_put, HA.sz, HA.e0, HA.e1, HA.e2, HG])) (by simp [ev_same, ev_ne, sz_put, HA.sz, HA.e0, HA.e1, HA.e2, HG]) (by simp [ev_same, ev_ne, sz_put, HA.sz, HA.e0, HA.e1, HA.e2, HG])) ?_
        refine take_ (i := 23) (d := 39) (v := (.bool true)) rfl rfl (by kernel_rfl) (by kernel_rfl) (by kernel_rfl) hQ (y_pick (s := 27) (x := 38) rfl (w_none rfl) (by simp [ev_same, ev_ne, sz_put, HA.sz, HA.e0, HA.e1, HA.e2, HG]) (by simp [ev_same, ev_ne, sz_put, HA.sz, HA.e0, HA.e1, HA.e2, HG])) ?_
        refine take_ (i := 24) (d := 40) (v := (.bool true)) rfl rfl (by kernel_rfl) (by kernel_rfl) (by kernel_rfl) hQ (y_move (s := 39) rfl (w_none rfl) (by simp [ev_same, ev_ne, sz_put, HA.sz, HA.e0, HA.e1, HA.e2, HG])) ?_
        exact hK _ _ ⟨by simp only [sz_put]; exact HA.sz, by simp only [df_put]; exact HA.df, by simp [ev_same, ev_ne, sz_put, HA.sz, HA.e0, HA.e1, HA.e2, HG], by simp [ev_same, ev_ne, sz_put, HA.sz, HA.e0, HA.e1, HA.e2, HG], by simp [ev_same, ev_ne, sz_put, HA.sz, HA.e0, HA.e1, HA.e2, HG]⟩ (by simp [ev_same, ev_ne, sz_put, HA.sz, HA.e0, HA.e1, HA.e2, HG]) W14_16_15_18_20_
      · skip
        obtain ⟨v14_16_18_, w14_16_18_, hr14_16_18_, ho14_16_18_, hg14_16_18_, hat14_16_18_⟩ := run_by (c := cp) 22 O14_16_ W14_16_.z (by omega) W14_16_.bel.size
        refine op_append (d := 34) (s := 32) (x := 33) rfl rfl (w_some (j := 11) (t := 27) rfl rfl (by simp [ev_same, ev_ne, sz_put, HA.sz, HA.e0, HA.e1, HA.e2, HG])) rfl rfl (by simp [ev_same, ev_ne, sz_put, HA.sz, HA.e0, HA.e1, HA.e2, HG]) (by simp [ev_same, ev_ne, sz_put, HA.sz, HA.e0, HA.e1, HA.e2, HG]) hr14_16_18_ ?_
        have W14_16_18_ := WB.row (base := 0) W14_16_ O14_16_ hg14_16_18_
        have O14_16_18_ : w14_16_18_.ownsRow w.heap.size 5 1 v14_16_18_ n (by_ b) := by rw [Nat.zero_add] at ho14_16_18_; exact ho14_16_18_
        have R14_16_18_ := R14_16_.row hL hg14_16_18_ hat14_16_18_
        refine all_ (rs := [15, 20]) (by kernel_rfl) (by simp) (fun i hi => ?_)
        simp only [List.mem_cons, List.not_mem_nil, or_false] at hi
        rcases hi with rfl | rfl
        · skip
          have hc14_16_18_15_ := R14_16_18_.z.conv c1
          rw [← hS] at hc14_16_18_15_
          refine op_conv (d := 31) (s := 30) rfl rfl (w_some (j := 11) (t := 27) rfl rfl (by simp [ev_same, ev_ne, sz_put, HA.sz, HA.e0, HA.e1, HA.e2, HG])) rfl (by simp [ev_same, ev_ne, sz_put, HA.sz, HA.e0, HA.e1, HA.e2, HG]) hc14_16_18_15_ ?_
          refine all_ (rs := [20]) (by kernel_rfl) (by simp) (fun i hi => ?_)
          obtain rfl := List.mem_singleton.1 hi
          refine op_call2 (d := 36) (s := 34) (x := 35) rfl rfl (w_some (j := 11) (t := 27) rfl rfl (by simp [ev_same, ev_ne, sz_put, HA.sz, HA.e0, HA.e1, HA.e2, HG])) rfl (fun _ _ => by go_simp) (by simp [ev_same, ev_ne, sz_put, HA.sz, HA.e0, HA.e1, HA.e2, HG]) (by simp [ev_same, ev_ne, sz_put, HA.sz, HA.e0, HA.e1, HA.e2, HG]) (HR _ _ O14_16_18_) (fun e w14_16_18_15_20_ he => ?_)
          obtain ⟨A2, c2, rfl, hy14_16_18_15_20_, hg14_16_18_15_20_⟩ := puts_z he
          refine ⟨_, rfl, ?_⟩
          have W14_16_18_15_20_ := WB.row (base := 0) W14_16_18_ O14_16_18_ hg14_16_18_15_20_
          have Z14_16_18_15_20_ := (R14_16_18_.row hL hg14_16_18_15_20_ (.inl rfl)).z
          refine all_ (rs := [21]) (by kernel_rfl) (by simp) (fun i hi => ?_)
          obtain rfl := List.mem_singleton.1 hi
          have hc14_16_18_15_20_21_ := hy14_16_18_15_20_.conv c2
          rw [← hS] at hc14_16_18_15_20_21_
          refine op_conv (d := 37) (s := 36) rfl rfl (w_some (j := 11) (t := 27) rfl rfl (by simp [ev_same, ev_ne, sz_put, HA.sz, HA.e0, HA.e1, HA.e2, HG])) rfl (by simp [ev_same, ev_ne, sz_put, HA.sz, HA.e0, HA.e1, HA.e2, HG]) hc14_16_18_15_20_21_ ?_
          refine take_ (i := 22) (d := 38) (v := (.bool true)) rfl rfl (by kernel_rfl) (by kernel_rfl) (by kernel_rfl) hQ (y_eql (s := 31) (x := 37) (S := S) rfl (w_some (j := 11) (t := 27) rfl rfl (by simp [ev_same, ev_ne, sz_put, HA.sz, HA.e0, HA.e1, HA.e2, HG])) (by simp [ev_same, ev_ne, sz_put, HA.sz, HA.e0, HA.e1, HA.e2, HG]) (by simp [ev_same, ev_ne, sz_put, HA.sz, HA.e0, HA.e1, HA.e2, HG])) ?_
          refine take_ (i := 23) (d := 39) (v := (.bool true)) rfl rfl (by kernel_rfl) (by kernel_rfl) (by kernel_rfl) hQ (y_pick (s := 27) (x := 38) rfl (w_none rfl) (by simp [ev_same, ev_ne, sz_put, HA.sz, HA.e0, HA.e1, HA.e2, HG]) (by simp [ev_same, ev_ne, sz_put, HA.sz, HA.e0, HA.e1, HA.e2, HG])) ?_
          refine take_ (i := 24) (d := 40) (v := (.bool true)) rfl rfl (by kernel_rfl) (by kernel_rfl) (by kernel_rfl) hQ (y_move (s := 39) rfl (w_none rfl) (by simp [ev_same, ev_ne, sz_put, HA.sz, HA.e0, HA.e1, HA.e2, HG])) ?_
          exact hK _ _ ⟨by simp only [sz_put]; exact HA.sz, by simp only [df_put]; exact HA.df, by simp [ev_same, ev_ne, sz_put, HA.sz, HA.e0, HA.e1, HA.e2, HG], by simp [ev_same, ev_ne, sz_put, HA.sz, HA.e0, HA.e1, HA.e2, HG], by simp [ev_same, ev_ne, sz_put, HA.sz, HA.e0, HA.e1, HA.e2, HG]⟩ (by simp [ev_same, ev_ne, sz_put, HA.sz, HA.e0, HA.e1, HA.e2, HG]) W14_16_18_15_20_
        · skip
          refine op_call2 (d := 36) (s := 34) (x := 35) rfl rfl (w_some (j := 11) (t := 27) rfl rfl (by simp [ev_same, ev_ne, sz_put, HA.sz, HA.e0, HA.e1, HA.e2, HG])) rfl (fun _ _ => by go_simp) (by simp [ev_same, ev_ne, sz_put, HA.sz, HA.e0, HA.e1, HA.e2, HG]) (by simp [ev_same, ev_ne, sz_put, HA.sz, HA.e0, HA.e1, HA.e2, HG]) (HR _ _ O14_16_18_) (fun e w14_16_18_20_ he => ?_)
          obtain ⟨A2, c2, rfl, hy14_16_18_20_, hg14_16_18_20_⟩ := puts_z he
          refine ⟨_, rfl, ?_⟩
          have W14_16_18_20_ := WB.row (base := 0) W14_16_18_ O14_16_18_ hg14_16_18_20_
          have Z14_16_18_20_ := (R14_16_18_.row hL hg14_16_18_20_ (.inl rfl)).z
          refine all_ (rs := [15, 21]) (by kernel_rfl) (by simp) (fun i hi => ?_)
          simp only [List.mem_cons, List.not_mem_nil, or_false] at hi
          rcases hi with rfl | rfl
          · skip
            have hc14_16_18_20_15_ := Z14_16_18_20_.conv c1
            rw [← hS] at hc14_16_18_20_15_
            refine op_conv (d := 31) (s := 30) rfl rfl (w_some (j := 11) (t := 27) rfl rfl (by simp [ev_same, ev_ne, sz_put, HA.sz, HA.e0, HA.e1, HA.e2, HG])) rfl (by simp [ev_same, ev_ne, sz_put, HA.sz, HA.e0, HA.e1, HA.e2, HG]) hc14_16_18_20_15_ ?_
            refine all_ (rs := [21]) (by kernel_rfl) (by simp) (fun i hi => ?_)
            obtain rfl := List.mem_singleton.1 hi
            have hc14_16_18_20_15_21_ := hy14_16_18_20_.conv c2
            rw [← hS] at hc14_16_18_20_15_21_
            refine op_conv (d := 37) (s := 36) rfl rfl (w_some (j := 11) (t := 27) rfl rfl (by simp [ev_same, ev_ne, sz_put, HA.sz, HA.e0, HA.e1, HA.e2, HG])) rfl (by simp [ev_same, ev_ne, sz_put, HA.sz, HA.e0, HA.e1, HA.e2, HG]) hc14_16_18_20_15_21_ ?_
            refine take_ (i := 22) (d := 38) (v := (.bool true)) rfl rfl (by kernel_rfl) (by kernel_rfl) (by kernel_rfl) hQ (y_eql (s := 31) (x := 37) (S := S) rfl (w_some (j := 11) (t := 27) rfl rfl (by simp [ev_same, ev_ne, sz_put, HA.sz, HA.e0, HA.e1, HA.e2, HG])) (by simp [ev_same, ev_ne, sz_put, HA.sz, HA.e0, HA.e1, HA.e2, HG]) (by simp [ev_same, ev_ne, sz_put, HA.sz, HA.e0, HA.e1, HA.e2, HG])) ?_
            refine take_ (i := 23) (d := 39) (v := (.bool true)) rfl rfl (by kernel_rfl) (by kernel_rfl) (by kernel_rfl) hQ (y_pick (s := 27) (x := 38) rfl (w_none rfl) (by simp [ev_same, ev_ne, sz_put, HA.sz, HA.e0, HA.e1, HA.e2, HG]) (by simp [ev_same, ev_ne, sz_put, HA.sz, HA.e0, HA.e1, HA.e2, HG])) ?_
            refine take_ (i := 24) (d := 40) (v := (.bool true)) rfl rfl (by kernel_rfl) (by kernel_rfl) (by kernel_rfl) hQ (y_move (s := 39) rfl (w_none rfl) (by simp [ev_same, ev_ne, sz_put, HA.sz, HA.e0, HA.e1, HA.e2, HG])) ?_
            exact hK _ _ ⟨by simp only [sz_put]; exact HA.sz, by simp only [df_put]; exact HA.df, by simp [ev_same, ev_ne, sz_put, HA.sz, HA.e0, HA.e1, HA.e2, HG], by simp [ev_same, ev_ne, sz_put, HA.sz, HA.e0, HA.e1, HA.e2, HG], by simp [ev_same, ev_ne, sz_put, HA.sz, HA.e0, HA.e1, HA.e2, HG]⟩ (by simp [ev_same, ev_ne, sz_put, HA.sz, HA.e0, HA.e1, HA.e2, HG]) W14_16_18_20_
          · skip
            have hc14_16_18_20_21_ := hy14_16_18_20_.conv c2
            rw [← hS] at hc14_16_18_20_21_
            refine op_conv (d := 37) (s := 36) rfl rfl (w_some (j := 11) (t := 27) rfl rfl (by simp [ev_same, ev_ne, sz_put, HA.sz, HA.e0, HA.e1, HA.e2, HG])) rfl (by simp [ev_same, ev_ne, sz_put, HA.sz, HA.e0, HA.e1, HA.e2, HG]) hc14_16_18_20_21_ ?_
            refine all_ (rs := [15]) (by kernel_rfl) (by simp) (fun i hi => ?_)
            obtain rfl := List.mem_singleton.1 hi
            have hc14_16_18_20_21_15_ := Z14_16_18_20_.conv c1
            rw [← hS] at hc14_16_18_20_21_15_
            refine op_conv (d := 31) (s := 30) rfl rfl (w_some (j := 11) (t := 27) rfl rfl (by simp [ev_same, ev_ne, sz_put, HA.sz, HA.e0, HA.e1, HA.e2, HG])) rfl (by simp [ev_same, ev_ne, sz_put, HA.sz, HA.e0, HA.e1, HA.e2, HG]) hc14_16_18_20_21_15_ ?_
            refine take_ (i := 22) (d := 38) (v := (.bool true)) rfl rfl (by kernel_rfl) (by kernel_rfl) (by kernel_rfl) hQ (y_eql (s := 31) (x := 37) (S := S) rfl (w_some (j := 11) (t := 27) rfl rfl (by simp [ev_same, ev_ne, sz_put, HA.sz, HA.e0, HA.e1, HA.e2, HG])) (by simp [ev_same, ev_ne, sz_put, HA.sz, HA.e0, HA.e1, HA.e2, HG]) (by simp [ev_same, ev_ne, sz_put, HA.sz, HA.e0, HA.e1, HA.e2, HG])) ?_
            refine take_ (i := 23) (d := 39) (v := (.bool true)) rfl rfl (by kernel_rfl) (by kernel_rfl) (by kernel_rfl) hQ (y_pick (s := 27) (x := 38) rfl (w_none rfl) (by simp [ev_same, ev_ne, sz_put, HA.sz, HA.e0, HA.e1, HA.e2, HG]) (by simp [ev_same, ev_ne, sz_put, HA.sz, HA.e0, HA.e1, HA.e2, HG])) ?_
            refine take_ (i := 24) (d := 40) (v := (.bool true)) rfl rfl (by kernel_rfl) (by kernel_rfl) (by kernel_rfl) hQ (y_move (s := 39) rfl (w_none rfl) (by simp [ev_same, ev_ne, sz_put, HA.sz, HA.e0, HA.e1, HA.e2, HG])) ?_
            exact hK _ _ ⟨by simp only [sz_put]; exact HA.sz, by simp only [df_put]; exact HA.df, by simp [ev_same, ev_ne, sz_put, HA.sz, HA.e0, HA.e1, HA.e2, HG], by simp [ev_same, ev_ne, sz_put, HA.sz, HA.e0, HA.e1, HA.e2, HG], by simp [ev_same, ev_ne, sz_put, HA.sz, HA.e0, HA.e1, HA.e2, HG]⟩ (by simp [ev_same, ev_ne, sz_put, HA.sz, HA.e0, HA.e1, HA.e2, HG]) W14_16_18_20_
  · skip
    refine op_build (d := 32) rfl rfl (w_some (j := 11) (t := 27) rfl rfl (by simp [ev_same, ev_ne, sz_put, HA.sz, HA.e0, HA.e1, HA.e2, HG])) rfl ?_
    have W16_ := hW.alloc (.cells #[] 5)
    have O16_ := own_none wa hW.bel.size
    refine all_ (rs := [14]) (by kernel_rfl) (by simp) (fun i hi => ?_)
    obtain rfl := List.mem_singleton.1 hi
    refine op_call2 (d := 30) (s := 28) (x := 29) rfl rfl (w_some (j := 11) (t := 27) rfl rfl (by simp [ev_same, ev_ne, sz_put, HA.sz, HA.e0, HA.e1, HA.e2, HG])) rfl (fun _ _ => by go_simp) (by simp [ev_same, ev_ne, sz_put, HA.sz, HA.e0, HA.e1, HA.e2, HG]) (by simp [ev_same, ev_ne, sz_put, HA.sz, HA.e0, HA.e1, HA.e2, HG]) (HP _ W16_) (fun e w16_14_ he => ?_)
    obtain ⟨A1, c1, rfl, hz16_14_, hb16_14_, hne16_14_⟩ := he
    refine ⟨_, rfl, ?_⟩
    have W16_14_ := W16_.below hb16_14_
    have O16_14_ := O16_.kept (grown_below hb16_14_ none) (.inr (by simp [Value.ownBlock]))
    have R16_14_ : PR w16_14_ A1 L.length L (.slice (some ⟨wa.heap.size, 0, none⟩) 0 0) := ⟨hz16_14_, fun ad e he => by have h1 := (O16_.lt _ he).2; have h2 := hne16_14_ ad e hL; omega⟩
    refine all_ (rs := [15, 18]) (by kernel_rfl) (by simp) (fun i hi => ?_)
    simp only [List.mem_cons, List.not_mem_nil, or_false] at hi
    rcases hi with rfl | rfl
    · skip
      have hc16_14_15_ := hz16_14_.conv c1
      rw [← hS] at hc16_14_15_
      refine op_conv (d := 31) (s := 30) rfl rfl (w_some (j := 11) (t := 27) rfl rfl (by simp [ev_same, ev_ne, sz_put, HA.sz, HA.e0, HA.e1, HA.e2, HG])) rfl (by simp [ev_same, ev_ne, sz_put, HA.sz, HA.e0, HA.e1, HA.e2, HG]) hc16_14_15_ ?_
      refine all_ (rs := [18]) (by kernel_rfl) (by simp) (fun i hi => ?_)
      obtain rfl := List.mem_singleton.1 hi
      obtain ⟨v16_14_15_18_, w16_14_15_18_, hr16_14_15_18_, ho16_14_15_18_, hg16_14_15_18_, hat16_14_15_18_⟩ := run_by (c := cp) 22 O16_14_ W16_14_.z (by omega) W16_14_.bel.size
      refine op_append (d := 34) (s := 32) (x := 33) rfl rfl (w_some (j := 11) (t := 27) rfl rfl (by simp [ev_same, ev_ne, sz_put, HA.sz, HA.e0, HA.e1, HA.e2, HG])) rfl rfl (by simp [ev_same, ev_ne, sz_put, HA.sz, HA.e0, HA.e1, HA.e2, HG]) (by simp [ev_same, ev_ne, sz_put, HA.sz, HA.e0, HA.e1, HA.e2, HG]) hr16_14_15_18_ ?_
      have W16_14_15_18_ := WB.row (base := 0) W16_14_ O16_14_ hg16_14_15_18_
      have O16_14_15_18_ : w16_14_15_18_.ownsRow w.heap.size 5 1 v16_14_15_18_ n (by_ b) := by rw [Nat.zero_add] at ho16_14_15_18_; exact ho16_14_15_18_
      have R16_14_15_18_ := R16_14_.row hL hg16_14_15_18_ hat16_14_15_18_
      refine all_ (rs := [20]) (by kernel_rfl) (by simp) (fun i hi => ?_)
      obtain rfl := List.mem_singleton.1 hi
      refine op_call2 (d := 36) (s := 34) (x := 35) rfl rfl (w_some (j := 11) (t := 27) rfl rfl (by simp [ev_same, ev_ne, sz_put, HA.sz, HA.e0, HA.e1, HA.e2, HG])) rfl (fun _ _ => by go_simp) (by simp [ev_same, ev_ne, sz_put, HA.sz, HA.e0, HA.e1, HA.e2, HG]) (by simp [ev_same, ev_ne, sz_put, HA.sz, HA.e0, HA.e1, HA.e2, HG]) (HR _ _ O16_14_15_18_) (fun e w16_14_15_18_20_ he => ?_)
      obtain ⟨A2, c2, rfl, hy16_14_15_18_20_, hg16_14_15_18_20_⟩ := puts_z he
      refine ⟨_, rfl, ?_⟩
      have W16_14_15_18_20_ := WB.row (base := 0) W16_14_15_18_ O16_14_15_18_ hg16_14_15_18_20_
      have Z16_14_15_18_20_ := (R16_14_15_18_.row hL hg16_14_15_18_20_ (.inl rfl)).z
      refine all_ (rs := [21]) (by kernel_rfl) (by simp) (fun i hi => ?_)
      obtain rfl := List.mem_singleton.1 hi
      have hc16_14_15_18_20_21_ := hy16_14_15_18_20_.conv c2
      rw [← hS] at hc16_14_15_18_20_21_
      refine op_conv (d := 37) (s := 36) rfl rfl (w_some (j := 11) (t := 27) rfl rfl (by simp [ev_same, ev_ne, sz_put, HA.sz, HA.e0, HA.e1, HA.e2, HG])) rfl (by simp [ev_same, ev_ne, sz_put, HA.sz, HA.e0, HA.e1, HA.e2, HG]) hc16_14_15_18_20_21_ ?_
      refine take_ (i := 22) (d := 38) (v := (.bool true)) rfl rfl (by kernel_rfl) (by kernel_rfl) (by kernel_rfl) hQ (y_eql (s := 31) (x := 37) (S := S) rfl (w_some (j := 11) (t := 27) rfl rfl (by simp [ev_same, ev_ne, sz_put, HA.sz, HA.e0, HA.e1, HA.e2, HG])) (by simp [ev_same, ev_ne, sz_put, HA.sz, HA.e0, HA.e1, HA.e2, HG]) (by simp [ev_same, ev_ne, sz_put, HA.sz, HA.e0, HA.e1, HA.e2, HG])) ?_
      refine take_ (i := 23) (d := 39) (v := (.bool true)) rfl rfl (by kernel_rfl) (by kernel_rfl) (by kernel_rfl) hQ (y_pick (s := 27) (x := 38) rfl (w_none rfl) (by simp [ev_same, ev_ne, sz_put, HA.sz, HA.e0, HA.e1, HA.e2, HG]) (by simp [ev_same, ev_ne, sz_put, HA.sz, HA.e0, HA.e1, HA.e2, HG])) ?_
      refine take_ (i := 24) (d := 40) (v := (.bool true)) rfl rfl (by kernel_rfl) (by kernel_rfl) (by kernel_rfl) hQ (y_move (s := 39) rfl (w_none rfl) (by simp [ev_same, ev_ne, sz_put, HA.sz, HA.e0, HA.e1, HA.e2, HG])) ?_
      exact hK _ _ ⟨by simp only [sz_put]; exact HA.sz, by simp only [df_put]; exact HA.df, by simp [ev_same, ev_ne, sz_put, HA.sz, HA.e0, HA.e1, HA.e2, HG], by simp [ev_same, ev_ne, sz_put, HA.sz, HA.e0, HA.e1, HA.e2, HG], by simp [ev_same, ev_ne, sz_put, HA.sz, HA.e0, HA.e1, HA.e2, HG]⟩ (by simp [ev_same, ev_ne, sz_put, HA.sz, HA.e0, HA.e1, HA.e2, HG]) W16_14_15_18_20_
    · skip
      obtain ⟨v16_14_18_, w16_14_18_, hr16_14_18_, ho16_14_18_, hg16_14_18_, hat16_14_18_⟩ := run_by (c := cp) 22 O16_14_ W16_14_.z (by omega) W16_14_.bel.size
      refine op_append (d := 34) (s := 32) (x := 33) rfl rfl (w_some (j := 11) (t := 27) rfl rfl (by simp [ev_same, ev_ne, sz_put, HA.sz, HA.e0, HA.e1, HA.e2, HG])) rfl rfl (by simp [ev_same, ev_ne, sz_put, HA.sz, HA.e0, HA.e1, HA.e2, HG]) (by simp [ev_same, ev_ne, sz_put, HA.sz, HA.e0, HA.e1, HA.e2, HG]) hr16_14_18_ ?_
      have W16_14_18_ := WB.row (base := 0) W16_14_ O16_14_ hg16_14_18_
      have O16_14_18_ : w16_14_18_.ownsRow w.heap.size 5 1 v16_14_18_ n (by_ b) := by rw [Nat.zero_add] at ho16_14_18_; exact ho16_14_18_
      have R16_14_18_ := R16_14_.row hL hg16_14_18_ hat16_14_18_
      refine all_ (rs := [15, 20]) (by kernel_rfl) (by simp) (fun i hi => ?_)
      simp only [List.mem_cons, List.not_mem_nil, or_false] at hi
      rcases hi with rfl | rfl
      · skip
        have hc16_14_18_15_ := R16_14_18_.z.conv c1
        rw [← hS] at hc16_14_18_15_
        refine op_conv (d := 31) (s := 30) rfl rfl (w_some (j := 11) (t := 27) rfl rfl (by simp [ev_same, ev_ne, sz_put, HA.sz, HA.e0, HA.e1, HA.e2, HG])) rfl (by simp [ev_same, ev_ne, sz_put, HA.sz, HA.e0, HA.e1, HA.e2, HG]) hc16_14_18_15_ ?_
        refine all_ (rs := [20]) (by kernel_rfl) (by simp) (fun i hi => ?_)
        obtain rfl := List.mem_singleton.1 hi
        refine op_call2 (d := 36) (s := 34) (x := 35) rfl rfl (w_some (j := 11) (t := 27) rfl rfl (by simp [ev_same, ev_ne, sz_put, HA.sz, HA.e0, HA.e1, HA.e2, HG])) rfl (fun _ _ => by go_simp) (by simp [ev_same, ev_ne, sz_put, HA.sz, HA.e0, HA.e1, HA.e2, HG]) (by simp [ev_same, ev_ne, sz_put, HA.sz, HA.e0, HA.e1, HA.e2, HG]) (HR _ _ O16_14_18_) (fun e w16_14_18_15_20_ he => ?_)
        obtain ⟨A2, c2, rfl, hy16_14_18_15_20_, hg16_14_18_15_20_⟩ := puts_z he
        refine ⟨_, rfl, ?_⟩
        have W16_14_18_15_20_ := WB.row (base := 0) W16_14_18_ O16_14_18_ hg16_14_18_15_20_
        have Z16_14_18_15_20_ := (R16_14_18_.row hL hg16_14_18_15_20_ (.inl rfl)).z
        refine all_ (rs := [21]) (by kernel_rfl) (by simp) (fun i hi => ?_)
        obtain rfl := List.mem_singleton.1 hi
        have hc16_14_18_15_20_21_ := hy16_14_18_15_20_.conv c2
        rw [← hS] at hc16_14_18_15_20_21_
        refine op_conv (d := 37) (s := 36) rfl rfl (w_some (j := 11) (t := 27) rfl rfl (by simp [ev_same, ev_ne, sz_put, HA.sz, HA.e0, HA.e1, HA.e2, HG])) rfl (by simp [ev_same, ev_ne, sz_put, HA.sz, HA.e0, HA.e1, HA.e2, HG]) hc16_14_18_15_20_21_ ?_
        refine take_ (i := 22) (d := 38) (v := (.bool true)) rfl rfl (by kernel_rfl) (by kernel_rfl) (by kernel_rfl) hQ (y_eql (s := 31) (x := 37) (S := S) rfl (w_some (j := 11) (t := 27) rfl rfl (by simp [ev_same, ev_ne, sz_put, HA.sz, HA.e0, HA.e1, HA.e2, HG])) (by simp [ev_same, ev_ne, sz_put, HA.sz, HA.e0, HA.e1, HA.e2, HG]) (by simp [ev_same, ev_ne, sz_put, HA.sz, HA.e0, HA.e1, HA.e2, HG])) ?_
        refine take_ (i := 23) (d := 39) (v := (.bool true)) rfl rfl (by kernel_rfl) (by kernel_rfl) (by kernel_rfl) hQ (y_pick (s := 27) (x := 38) rfl (w_none rfl) (by simp [ev_same, ev_ne, sz_put, HA.sz, HA.e0, HA.e1, HA.e2, HG]) (by simp [ev_same, ev_ne, sz_put, HA.sz, HA.e0, HA.e1, HA.e2, HG])) ?_
        refine take_ (i := 24) (d := 40) (v := (.bool true)) rfl rfl (by kernel_rfl) (by kernel_rfl) (by kernel_rfl) hQ (y_move (s := 39) rfl (w_none rfl) (by simp [ev_same, ev_ne, sz_put, HA.sz, HA.e0, HA.e1, HA.e2, HG])) ?_
        exact hK _ _ ⟨by simp only [sz_put]; exact HA.sz, by simp only [df_put]; exact HA.df, by simp [ev_same, ev_ne, sz_put, HA.sz, HA.e0, HA.e1, HA.e2, HG], by simp [ev_same, ev_ne, sz_put, HA.sz, HA.e0, HA.e1, HA.e2, HG], by simp [ev_same, ev_ne, sz_put, HA.sz, HA.e0, HA.e1, HA.e2, HG]⟩ (by simp [ev_same, ev_ne, sz_put, HA.sz, HA.e0, HA.e1, HA.e2, HG]) W16_14_18_15_20_
      · skip
        refine op_call2 (d := 36) (s := 34) (x := 35) rfl rfl (w_some (j := 11) (t := 27) rfl rfl (by simp [ev_same, ev_ne, sz_put, HA.sz, HA.e0, HA.e1, HA.e2, HG])) rfl (fun _ _ => by go_simp) (by simp [ev_same, ev_ne, sz_put, HA.sz, HA.e0, HA.e1, HA.e2, HG]) (by simp [ev_same, ev_ne, sz_put, HA.sz, HA.e0, HA.e1, HA.e2, HG]) (HR _ _ O16_14_18_) (fun e w16_14_18_20_ he => ?_)
        obtain ⟨A2, c2, rfl, hy16_14_18_20_, hg16_14_18_20_⟩ := puts_z he
        refine ⟨_, rfl, ?_⟩
        have W16_14_18_20_ := WB.row (base := 0) W16_14_18_ O16_14_18_ hg16_14_18_20_
        have Z16_14_18_20_ := (R16_14_18_.row hL hg16_14_18_20_ (.inl rfl)).z
        refine all_ (rs := [15, 21]) (by kernel_rfl) (by simp) (fun i hi => ?_)
        simp only [List.mem_cons, List.not_mem_nil, or_false] at hi
        rcases hi with rfl | rfl
        · skip
          have hc16_14_18_20_15_ := Z16_14_18_20_.conv c1
          rw [← hS] at hc16_14_18_20_15_
          refine op_conv (d := 31) (s := 30) rfl rfl (w_some (j := 11) (t := 27) rfl rfl (by simp [ev_same, ev_ne, sz_put, HA.sz, HA.e0, HA.e1, HA.e2, HG])) rfl (by simp [ev_same, ev_ne, sz_put, HA.sz, HA.e0, HA.e1, HA.e2, HG]) hc16_14_18_20_15_ ?_
          refine all_ (rs := [21]) (by kernel_rfl) (by simp) (fun i hi => ?_)
          obtain rfl := List.mem_singleton.1 hi
          have hc16_14_18_20_15_21_ := hy16_14_18_20_.conv c2
          rw [← hS] at hc16_14_18_20_15_21_
          refine op_conv (d := 37) (s := 36) rfl rfl (w_some (j := 11) (t := 27) rfl rfl (by simp [ev_same, ev_ne, sz_put, HA.sz, HA.e0, HA.e1, HA.e2, HG])) rfl (by simp [ev_same, ev_ne, sz_put, HA.sz, HA.e0, HA.e1, HA.e2, HG]) hc16_14_18_20_15_21_ ?_
          refine take_ (i := 22) (d := 38) (v := (.bool true)) rfl rfl (by kernel_rfl) (by kernel_rfl) (by kernel_rfl) hQ (y_eql (s := 31) (x := 37) (S := S) rfl (w_some (j := 11) (t := 27) rfl rfl (by simp [ev_same, ev_ne, sz_put, HA.sz, HA.e0, HA.e1, HA.e2, HG])) (by simp [ev_same, ev_ne, sz_put, HA.sz, HA.e0, HA.e1, HA.e2, HG]) (by simp [ev_same, ev_ne, sz_put, HA.sz, HA.e0, HA.e1, HA.e2, HG])) ?_
          refine take_ (i := 23) (d := 39) (v := (.bool true)) rfl rfl (by kernel_rfl) (by kernel_rfl) (by kernel_rfl) hQ (y_pick (s := 27) (x := 38) rfl (w_none rfl) (by simp [ev_same, ev_ne, sz_put, HA.sz, HA.e0, HA.e1, HA.e2, HG]) (by simp [ev_same, ev_ne, sz_put, HA.sz, HA.e0, HA.e1, HA.e2, HG])) ?_
          refine take_ (i := 24) (d := 40) (v := (.bool true)) rfl rfl (by kernel_rfl) (by kernel_rfl) (by kernel_rfl) hQ (y_move (s := 39) rfl (w_none rfl) (by simp [ev_same, ev_ne, sz_put, HA.sz, HA.e0, HA.e1, HA.e2, HG])) ?_
          exact hK _ _ ⟨by simp only [sz_put]; exact HA.sz, by simp only [df_put]; exact HA.df, by simp [ev_same, ev_ne, sz_put, HA.sz, HA.e0, HA.e1, HA.e2, HG], by simp [ev_same, ev_ne, sz_put, HA.sz, HA.e0, HA.e1, HA.e2, HG], by simp [ev_same, ev_ne, sz_put, HA.sz, HA.e0, HA.e1, HA.e2, HG]⟩ (by simp [ev_same, ev_ne, sz_put, HA.sz, HA.e0, HA.e1, HA.e2, HG]) W16_14_18_20_
        · skip
          have hc16_14_18_20_21_ := hy16_14_18_20_.conv c2
          rw [← hS] at hc16_14_18_20_21_
          refine op_conv (d := 37) (s := 36) rfl rfl (w_some (j := 11) (t := 27) rfl rfl (by simp [ev_same, ev_ne, sz_put, HA.sz, HA.e0, HA.e1, HA.e2, HG])) rfl (by simp [ev_same, ev_ne, sz_put, HA.sz, HA.e0, HA.e1, HA.e2, HG]) hc16_14_18_20_21_ ?_
          refine all_ (rs := [15]) (by kernel_rfl) (by simp) (fun i hi => ?_)
          obtain rfl := List.mem_singleton.1 hi
          have hc16_14_18_20_21_15_ := Z16_14_18_20_.conv c1
          rw [← hS] at hc16_14_18_20_21_15_
          refine op_conv (d := 31) (s := 30) rfl rfl (w_some (j := 11) (t := 27) rfl rfl (by simp [ev_same, ev_ne, sz_put, HA.sz, HA.e0, HA.e1, HA.e2, HG])) rfl (by simp [ev_same, ev_ne, sz_put, HA.sz, HA.e0, HA.e1, HA.e2, HG]) hc16_14_18_20_21_15_ ?_
          refine take_ (i := 22) (d := 38) (v := (.bool true)) rfl rfl (by kernel_rfl) (by kernel_rfl) (by kernel_rfl) hQ (y_eql (s := 31) (x := 37) (S := S) rfl (w_some (j := 11) (t := 27) rfl rfl (by simp [ev_same, ev_ne, sz_put, HA.sz, HA.e0, HA.e1, HA.e2, HG])) (by simp [ev_same, ev_ne, sz_put, HA.sz, HA.e0, HA.e1, HA.e2, HG]) (by simp [ev_same, ev_ne, sz_put, HA.sz, HA.e0, HA.e1, HA.e2, HG])) ?_
          refine take_ (i := 23) (d := 39) (v := (.bool true)) rfl rfl (by kernel_rfl) (by kernel_rfl) (by kernel_rfl) hQ (y_pick (s := 27) (x := 38) rfl (w_none rfl) (by simp [ev_same, ev_ne, sz_put, HA.sz, HA.e0, HA.e1, HA.e2, HG]) (by simp [ev_same, ev_ne, sz_put, HA.sz, HA.e0, HA.e1, HA.e2, HG])) ?_
          refine take_ (i := 24) (d := 40) (v := (.bool true)) rfl rfl (by kernel_rfl) (by kernel_rfl) (by kernel_rfl) hQ (y_move (s := 39) rfl (w_none rfl) (by simp [ev_same, ev_ne, sz_put, HA.sz, HA.e0, HA.e1, HA.e2, HG])) ?_
          exact hK _ _ ⟨by simp only [sz_put]; exact HA.sz, by simp only [df_put]; exact HA.df, by simp [ev_same, ev_ne, sz_put, HA.sz, HA.e0, HA.e1, HA.e2, HG], by simp [ev_same, ev_ne, sz_put, HA.sz, HA.e0, HA.e1, HA.e2, HG], by simp [ev_same, ev_ne, sz_put, HA.sz, HA.e0, HA.e1, HA.e2, HG]⟩ (by simp [ev_same, ev_ne, sz_put, HA.sz, HA.e0, HA.e1, HA.e2, HG]) W16_14_18_20_
end Go.Proofs.Yteomdnmkcmgeaaa.Rg
