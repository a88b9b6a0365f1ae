/-
  A name's greatest cost so far.
-/
import Derived.Test.YtolkghdeppoanaaSfG
set_option linter.unusedVariables false
set_option linter.unusedSimpArgs false
namespace Go.Proofs.Ytolkghdeppoanaa.SfH
open Go.RowKit Go.Maps Go.Proofs.Ytolkghdeppoanaa.BxD Go.Proofs.Ytolkghdeppoanaa.BxKit Go.Proofs.Ytolkghdeppoanaa.RkO Go.Proofs.Ytolkghdeppoanaa.RkP Go.Proofs.Ytolkghdeppoanaa.RkC Go.Proofs.Ytolkghdeppoanaa.RkD Go.Proofs.Ytolkghdeppoanaa.RkR Go.Proofs.Ytolkghdeppoanaa.RkK Go.Proofs.Ytolkghdeppoanaa.RkM Go.Proofs.Ytolkghdeppoanaa.RkN Go.Proofs.Ytolkghdeppoanaa.SfC Go.Proofs.Ytolkghdeppoanaa.SfD Go.Proofs.Ytolkghdeppoanaa.SfK Go.Proofs.Ytolkghdeppoanaa.SfG

def Bd (G : Gr) : Prop := ∀ p ∈ G, p.2 ≤ 3000000
theorem val_bd {G : Gr} (h : Bd G) (n : ByteArray) : val G n ≤ 3000000 := by
  unfold val
  split
  · rename_i p hp; exact h p (List.mem_of_find?_eq_some hp)
  · exact Nat.zero_le _
theorem Bd.mxu {n : ByteArray} {c : Nat} (hc : c ≤ 3000000) : ∀ {G : Gr}, Bd G → Bd (mxu n c G)
  | [], _ => by intro p hp; simp [SfD.mxu] at hp; subst hp; exact hc
  | q :: r, h => by
    have hq := h q (List.mem_cons_self ..)
    have hr : Bd r := fun p hp => h p (List.mem_cons_of_mem _ hp)
    intro p hp
    unfold SfD.mxu at hp
    split at hp
    · rcases List.mem_cons.1 hp with rfl | hp
      · show max q.2 c ≤ 3000000; omega
      · exact hr p hp
    · rcases List.mem_cons.1 hp with rfl | hp
      · exact hq
      · exact (Bd.mxu (n := n) hc hr) p hp
theorem mxu_len (n : ByteArray) (c : Nat) : ∀ G : Gr, (mxu n c G).length ≤ G.length + 1
  | [] => by simp [mxu]
  | q :: r => by
    have := mxu_len n c r
    unfold mxu
    split <;> simp <;> omega
theorem sum_bd : ∀ {G : Gr}, Bd G → sum2 G ≤ 3000000 * G.length
  | [], _ => by simp [sum2]
  | q :: r, h => by
    have h1 := h q (List.mem_cons_self ..)
    have h2 := sum_bd (G := r) fun p hp => h p (List.mem_cons_of_mem _ hp)
    unfold sum2 at h2 ⊢
    rw [List.map_cons, List.sum_cons, List.length_cons]
    omega
theorem wf_nat {x : Nat} (h : x ≤ 1000000000) : (Lit.int .i64 (x : Int)).wf = true := by
  unfold Lit.wf
  simp [IntKind.min, IntKind.max, IntKind.signed, IntKind.bits]
  omega
set_option maxHeartbeats 2000000 in
set_option maxRecDepth 100000 in
theorem count_any {w : World} {P B m : Nat} {G : Gr} (hP : w.cell? { block := P, off := 0 } = some (.map (some B))) (h : MG w B m G) (hb : Bd G) (hm : m ≤ 10000) {nm : ByteArray} {D : Option Addr} {n dc : Nat} (hz : nm.size ≤ 1000000) (hn : n ≤ 1000000) :
    Calls Try.prog 69 #[.string nm, .slice D n dc, .pointer (some ⟨P, 0, none⟩)] w fun e w' => e = .returned (.tuple #[]) ∧ MG w' B (m + 1) (mxu nm (nm.size + n + 8) G) ∧ w.grownBy w' (some B) := by
  have hv := val_bd hb nm
  have hlk := h.look (n := nm) (by unfold maxLen; omega)
  have H := Lib.hid h
  obtain ⟨v, hve⟩ : ∃ v, v = val G nm := ⟨_, rfl⟩
  rw [← hve] at hv hlk
  have HV := Lib.hid hve
  clear h hve
  by_cases hle : v ≤ nm.size + n + 8
  · have hmx : ¬ ((nm.size : Int) + (n : Int) + 8 < (v : Int)) := by omega
    go_enter Try.func69, Try.ntmps69
    go_wp2_with (at_mapUpdate; go_loud (
       refine wpList_mg H.out rfl _ _ _ rfl rfl (c := nm.size + n + 8) (y := nm.size + n + 8) rfl rfl (by first | rfl | (simp; done) | (simp; omega) | omega) (by unfold maxLen; omega) (by unfold maxLen; omega) (by rw [← HV.out]; omega) (wf_nat (by omega)) ?_
       intro w2 hm2 hg2
       have M2 := Lib.hid hm2
       have G2 := Lib.hid hg2
       clear hm2 hg2))
    all_goals
      go_end0
      exact ⟨rfl, M2.out, G2.out⟩
  · have hmx : (nm.size : Int) + (n : Int) + 8 < (v : Int) := by omega
    go_enter Try.func69, Try.ntmps69
    go_wp2_with (at_mapUpdate; go_loud (
       refine wpList_mg H.out rfl _ _ _ rfl rfl (c := nm.size + n + 8) (y := v) rfl rfl (by first | rfl | (simp; done) | (simp; omega) | omega) (by unfold maxLen; omega) (by unfold maxLen; omega) (by rw [← HV.out]; omega) (wf_nat (by omega)) ?_
       intro w2 hm2 hg2
       have M2 := Lib.hid hm2
       have G2 := Lib.hid hg2
       clear hm2 hg2))
    all_goals
      go_end0
      exact ⟨rfl, M2.out, G2.out⟩
end Go.Proofs.Ytolkghdeppoanaa.SfH
