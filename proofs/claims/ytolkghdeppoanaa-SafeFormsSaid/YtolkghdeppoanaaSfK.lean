/-
  A rack beside changes that stay: what a call on it may have turned.
-/
import Derived.Test.YtolkghdeppoanaaRkG
import Derived.Test.YtolkghdeppoanaaSfC
import Derived.Test.YtolkghdeppoanaaSfD
set_option linter.unusedVariables false
set_option linter.unusedSimpArgs false
namespace Go.Proofs.Ytolkghdeppoanaa.SfK
open Go.RowKit Go.Proofs.Ytolkghdeppoanaa.BxD Go.Proofs.Ytolkghdeppoanaa.BxKit Go.Proofs.Ytolkghdeppoanaa.RkO Go.Proofs.Ytolkghdeppoanaa.RkC Go.Proofs.Ytolkghdeppoanaa.RkD Go.Proofs.Ytolkghdeppoanaa.RkR Go.Proofs.Ytolkghdeppoanaa.RkK Go.Proofs.Ytolkghdeppoanaa.RkP Go.Proofs.Ytolkghdeppoanaa.RkQ Go.Proofs.Ytolkghdeppoanaa.RkE Go.Proofs.Ytolkghdeppoanaa.RkS Go.Proofs.Ytolkghdeppoanaa.RkM Go.Proofs.Ytolkghdeppoanaa.RkN Go.Proofs.Ytolkghdeppoanaa.RkV Go.Proofs.Ytolkghdeppoanaa.RkW Go.Proofs.Ytolkghdeppoanaa.RkU Go.Proofs.Ytolkghdeppoanaa.RkT Go.Proofs.Ytolkghdeppoanaa.RkG Go.Proofs.Ytolkghdeppoanaa.SfC

/-- What a call on the rack at T may have turned: that block, and rows of changes that do not stay. -/
structure Fq (base T lo hi : Nat) (w w' : World) : Prop where
  os : w'.os = w.os
  tape : w'.tape = w.tape
  output : w'.output = w.output
  size : w.heap.size ≤ w'.heap.size
  block : ∀ k, k < w.heap.size → (Pb base lo hi k ∨ (k ≠ T ∧ ∀ cs fr, w.heap[k]? ≠ some (.cells cs 42 fr))) → w'.heap[k]? = w.heap[k]?
section
variable {base T lo hi : Nat} {a b c w w' : World}
theorem Fq.of (h : Below w.heap.size w w') : Fq base T lo hi w w' := ⟨h.os, h.tape, h.output, h.size, fun k hk _ => h.block k hk⟩
theorem Fq.refl (w : World) : Fq base T lo hi w w := Fq.of (Below.refl _ _)
theorem Fq.trans (h : Fq base T lo hi a b) (k : Fq base T lo hi b c) : Fq base T lo hi a c := by
  refine ⟨k.os.trans h.os, k.tape.trans h.tape, k.output.trans h.output, Nat.le_trans h.size k.size, fun i hi h1 => ?_⟩
  have e := h.block i hi h1
  refine (k.block i (Nat.lt_of_lt_of_le hi h.size) ?_).trans e
  rcases h1 with h1 | ⟨h1, h2⟩
  · exact .inl h1
  · exact .inr ⟨h1, fun cs fr => by rw [e]; exact h2 cs fr⟩
theorem Fq.kb (h : Fq base T lo hi w w') (h1 : base ≤ w.heap.size) (h2 : hi ≤ w.heap.size) : Kb base lo hi w w' := fun k hk => h.block k (by unfold Pb at hk; omega) (.inl hk)
theorem Fq.to (h : Fq base T lo hi w w') (h1 : base ≤ w.heap.size) : Below base w w' := ⟨h.os, h.tape, h.output, h.size, fun k hk => h.block k (by omega) (.inl (.inl hk))⟩
/-- What is no rack and no row of changes stays. -/
theorem Fq.row {P : Nat} {t : TypeId} {l : List Value} (h : Fq base T lo hi w w') (hr : Row w P t l) (hT : P ≠ T) (ht : t ≠ 42) : Row w' P t l := by
  refine hr.same (h.block P hr.lt (.inr ⟨hT, fun cs fr e => ?_⟩))
  unfold Row at hr
  rw [hr] at e
  injection e with e
  injection e with _ e
  exact ht e
theorem Fq.shut (h : Fq base T lo hi w w') : Fq base T 0 0 w w' := ⟨h.os, h.tape, h.output, h.size, fun k hk h1 => h.block k hk (h1.imp (fun h => .inl (by unfold Pb at h; omega)) id)⟩
end
/-- The rack at T behind at most k calls is as s says; its block and its loose writes' row lie apart from what stays. -/
structure Rx (base T lo hi k : Nat) (w : World) (s : St) : Prop where
  ok : Ok k s
  fu : FuOk s
  rk : ∃ SA sn sc FA fn fcp LA ln lc, Rk w base T s SA sn sc FA fn fcp LA ln lc ∧ ∀ ad : Addr, LA = some ad → ¬ (lo ≤ ad.block ∧ ad.block < hi)
  nT : ¬ (lo ≤ T ∧ T < hi)
  bs : base ≤ w.heap.size
  hs : hi ≤ w.heap.size
section
variable {base T lo hi k : Nat} {w w' : World} {s s' : St}
theorem Rx.lt (h : Rx base T lo hi k w s) : T < w.heap.size := by obtain ⟨_, _, _, _, _, _, _, _, _, h, _⟩ := h.rk; exact h.lt
theorem Rx.low (h : Rx base T lo hi k w s) : base ≤ T := by obtain ⟨_, _, _, _, _, _, _, _, _, h, _⟩ := h.rk; exact h.low
theorem Rx.go (h : Rx base T lo hi k w s) (hb : Below w.heap.size w w') : Rx base T lo hi k w' s := by
  obtain ⟨h1, h2, ⟨SA, sn, sc, FA, fn, fcp, LA, ln, lc, h3, h4⟩, h5, h6, h7⟩ := h
  exact ⟨h1, h2, ⟨_, _, _, _, _, _, _, _, _, h3.below hb, h4⟩, h5, Nat.le_trans h6 hb.size, Nat.le_trans h7 hb.size⟩
theorem Rx.more (h : Rx base T lo hi k w s) {m : Nat} (hm : k ≤ m) : Rx base T lo hi m w s := ⟨h.ok.mono hm, h.fu, h.rk, h.nT, h.bs, h.hs⟩
/-- What was made since stays. -/
theorem Rx.win (h : Rx base T lo hi k w s) (hb : Below w.heap.size w w') : Rx base T w.heap.size w'.heap.size k w' s := by
  have hl := h.lt
  obtain ⟨h1, h2, ⟨SA, sn, sc, FA, fn, fcp, LA, ln, lc, h3, h4⟩, h5, h6, h7⟩ := h
  exact ⟨h1, h2, ⟨_, _, _, _, _, _, _, _, _, h3.below hb, fun ad e => by have := (h3.loose.blk e).2.1; omega⟩, by omega, Nat.le_trans h6 hb.size, Nat.le_refl _⟩
theorem Rx.shut (h : Rx base T lo hi k w s) : Rx base T 0 0 k w s := by
  obtain ⟨h1, h2, ⟨SA, sn, sc, FA, fn, fcp, LA, ln, lc, h3, h4⟩, h5, h6, h7⟩ := h
  exact ⟨h1, h2, ⟨_, _, _, _, _, _, _, _, _, h3, fun ad e => by omega⟩, by omega, h6, Nat.zero_le _⟩
theorem Rx.kp (h : Rx base T lo hi k w s) (hf : Fq base T lo hi w w') : Kp w w' := by
  intro i hi
  refine hf.block i hi.lt (.inr ⟨?_, fun cs fr e => ?_⟩)
  · rintro rfl
    obtain ⟨_, _, _, _, _, _, _, _, _, hr, _⟩ := h.rk
    obtain ⟨cs, t, fr, h1, h2⟩ := hi
    have h3 := hr.head
    unfold Row at h3
    rw [h3] at h1
    injection h1 with h1
    injection h1 with _ e2
    subst e2
    rcases h2 with h2 | h2 <;> exact absurd h2 (by decide)
  · obtain ⟨cs', t, fr', h1, h2⟩ := hi
    rw [e] at h1
    injection h1 with h1
    injection h1 with _ e2
    subst e2
    rcases h2 with h2 | h2 <;> exact absurd h2 (by decide)
theorem Rx.head (h : Rx base T lo hi k w s) : ∃ l, Row w T 74 l := by obtain ⟨_, _, _, _, _, _, _, _, _, h, _⟩ := h.rk; exact ⟨_, h.head⟩
end
/-- What a call on a rack tells, and leaves. -/
def RxP (base T lo hi k : Nat) (w : World) (s' : St) (e0 : Ending) (e : Ending) (w' : World) : Prop := e = e0 ∧ Rx base T lo hi k w' s' ∧ Fq base T lo hi w w'
section
variable {base T lo hi k : Nat} {w w' : World} {s s' : St}
theorem RxP.post {SA FA LA : Option Addr} {sn sc fn fcp ln lc : Nat} {e0 e : Ending} (h : Rk w base T s SA sn sc FA fn fcp LA ln lc) (hL : ∀ ad : Addr, LA = some ad → ¬ (lo ≤ ad.block ∧ ad.block < hi)) (nT : ¬ (lo ≤ T ∧ T < hi)) (bs : base ≤ w.heap.size) (hs : hi ≤ w.heap.size) (ok : Ok k s') (fu : FuOk s') (p : RkPost w base T LA s' e0 e w') : RxP base T lo hi k w s' e0 e w' := by
  obtain ⟨he, LA', ⟨SA', sn', sc', FA', fn', fcp', ln', lc', hr⟩, hf, hn⟩ := p
  refine ⟨he, ⟨ok, fu, ⟨_, _, _, _, _, _, _, _, _, hr, fun ad e => ?_⟩, nT, Nat.le_trans bs hf.size, Nat.le_trans hs hf.size⟩, hf.os, hf.tape, hf.output, hf.size, fun i hi h1 => ?_⟩
  · rcases hn ad e with h1 | ⟨ad0, h1, h2⟩
    · omega
    · rw [h2]; exact hL ad0 h1
  · rcases h1 with h1 | ⟨h1, h2⟩
    · refine hf.block i hi ?_ fun ad e => ?_
      · have := h.low; unfold Pb at h1; omega
      · have := h.lb ad e; have := hL ad e; unfold Pb at h1; omega
    · refine hf.block i hi h1 fun ad e e2 => ?_
      obtain ⟨_, _, cs, h3⟩ := h.loose.blk e
      rw [← e2] at h3
      exact h2 cs _ h3
theorem writeX (h : Rx base T lo hi k w s) (h6 : k ≤ 900) {D : Option Addr} {dn dc B : Nat} (n : ByteArray) {d : List UInt8} (hD : PkKit.BytesAt w B D dn d) (hB : B ≤ w.heap.size) :
    Calls Try.prog 41 #[ptr T, .string n, .slice D dn dc] w (RxP base T lo hi (k + 1) w (wrS s n d) (.returned (.int .i64 (wrE s n d)))) := by
  obtain ⟨h1, h2, ⟨SA, sn, sc, FA, fn, fcp, LA, ln, lc, h3, h4⟩, h5, h6', h7⟩ := h
  exact (Write_any h3 h1 h6 hD hB h6' h2).mono fun _ _ p => RxP.post h3 h4 h5 h6' h7 (h1.wr n d) (h2.wr n d) p
theorem cutX (h : Rx base T lo hi k w s) (h6 : k ≤ 900) (n : ByteArray) : Calls Try.prog 63 #[ptr T, .string n] w (RxP base T lo hi (k + 1) w (ctS s n) (.returned (.int .i64 (ctE s n)))) := by
  obtain ⟨h1, h2, ⟨SA, sn, sc, FA, fn, fcp, LA, ln, lc, h3, h4⟩, h5, h6', h7⟩ := h
  exact (Cut_any h3 h1 h6 h6' h2).mono fun _ _ p => RxP.post h3 h4 h5 h6' h7 (h1.ct n) (h2.ct n) p
theorem flushX (h : Rx base T lo hi k w s) : Calls Try.prog 42 #[ptr T] w (RxP base T lo hi k w (flS s) (.returned (.int .i64 (flE s)))) := by
  obtain ⟨h1, h2, ⟨SA, sn, sc, FA, fn, fcp, LA, ln, lc, h3, h4⟩, h5, h6', h7⟩ := h
  exact (flush_any h3).mono fun _ _ p => RxP.post h3 h4 h5 h6' h7 h1.fl h2.fl p
theorem crashX (h : Rx base T lo hi k w s) (h6 : k ≤ 900) {D : Option Addr} {dn dc B : Nat} {ps : List UInt8} (hD : PkKit.BytesAt w B D dn ps) (hB : B ≤ w.heap.size) (hdn : dn ≤ 100000000) :
    Calls Try.prog 23 #[ptr T, .slice D dn dc] w (RxP base T lo hi k w (crS s ps) (.returned (.tuple #[]))) := by
  obtain ⟨h1, h2, ⟨SA, sn, sc, FA, fn, fcp, LA, ln, lc, h3, h4⟩, h5, h6', h7⟩ := h
  exact (crash_any h3 h1 h6 hD hB hdn).mono fun _ _ p => RxP.post h3 h4 h5 h6' h7 (h1.cr ps) (FuOk.cr s ps) p
theorem fuseX (h : Rx base T lo hi k w s) (n : Int) (hn : n ≤ 9223372036854775807) : Calls Try.prog 22 #[ptr T, .int .i64 n] w (RxP base T lo hi k w (fuS s (fuO n)) (.returned (.tuple #[]))) := by
  obtain ⟨h1, h2, ⟨SA, sn, sc, FA, fn, fcp, LA, ln, lc, h3, h4⟩, h5, h6', h7⟩ := h
  exact (fuse_any h3 n).mono fun _ _ p => RxP.post h3 h4 h5 h6' h7 (h1.fu _) (FuOk.fu s n hn) p
theorem readX (h : Rx base T lo hi k w s) (h6 : k ≤ 1000) (n : ByteArray) : Calls Try.prog 39 #[ptr T, .string n] w (RdPost (rdF s n) w) := by
  obtain ⟨h1, h2, ⟨SA, sn, sc, FA, fn, fcp, LA, ln, lc, h3, h4⟩, h5, h6', h7⟩ := h
  exact read_any h3 h1 h6 n
theorem namesX (h : Rx base T lo hi k w s) (h6 : k ≤ 1000) : Calls Try.prog 51 #[ptr T] w (NmPost (s.files.map (·.1)) w) := by
  obtain ⟨h1, h2, ⟨SA, sn, sc, FA, fn, fcp, LA, ln, lc, h3, h4⟩, h5, h6', h7⟩ := h
  exact names_any h3 h1 h6
theorem sizeX (h : Rx base T lo hi k w s) (h6 : k ≤ 1000) : Calls Try.prog 45 #[ptr T] w fun e w' => e = .returned (.int .i64 (costs s.files : Nat)) ∧ Below w.heap.size w w' := by
  obtain ⟨h1, h2, ⟨SA, sn, sc, FA, fn, fcp, LA, ln, lc, h3, h4⟩, h5, h6', h7⟩ := h
  exact size_any h3 h1 h6
theorem roomX (h : Rx base T lo hi k w s) (h6 : k ≤ 1000) : Calls Try.prog 46 #[ptr T] w fun e w' => e = .returned (.int .i64 ((s.room : Int) - (costs s.files : Nat))) ∧ Below w.heap.size w w' := by
  obtain ⟨h1, h2, ⟨SA, sn, sc, FA, fn, fcp, LA, ln, lc, h3, h4⟩, h5, h6', h7⟩ := h
  exact room_any h3 h1 h6
theorem downX (h : Rx base T lo hi k w s) : Calls Try.prog 38 #[ptr T] w fun e w' => e = .returned (.bool s.down) ∧ w = w' := by
  obtain ⟨h1, h2, ⟨SA, sn, sc, FA, fn, fcp, LA, ln, lc, h3, h4⟩, h5, h6', h7⟩ := h
  exact down_any h3
theorem looseX (h : Rx base T lo hi k w s) : Calls Try.prog 27 #[ptr T] w fun e w' => e = .returned (.int .i64 (s.loose.length : Nat)) ∧ w = w' := by
  obtain ⟨h1, h2, ⟨SA, sn, sc, FA, fn, fcp, LA, ln, lc, h3, h4⟩, h5, h6', h7⟩ := h
  rw [h3.loose.len]
  exact loose_any h3
theorem writesX (h : Rx base T lo hi k w s) : Calls Try.prog 28 #[ptr T] w fun e w' => e = .returned (.int .i64 (s.writes : Nat)) ∧ w = w' := by
  obtain ⟨h1, h2, ⟨SA, sn, sc, FA, fn, fcp, LA, ln, lc, h3, h4⟩, h5, h6', h7⟩ := h
  exact writes_any h3
theorem sureX (h : Rx base T lo hi k w s) (h6 : k ≤ 1000) : Calls Try.prog 20 #[ptr T] w (SuPost s.sure w) := by
  obtain ⟨h1, h2, ⟨SA, sn, sc, FA, fn, fcp, LA, ln, lc, h3, h4⟩, h5, h6', h7⟩ := h
  exact sure_any h3 h1 h6
/-- A new rack. -/
theorem newX (w : World) (base : Nat) (room : Int) (hb : base ≤ w.heap.size) : Calls Try.prog 16 #[.int .i64 room] w fun e w' => e = .returned (ptr w.heap.size) ∧ Rx base w.heap.size 0 0 0 w' (newS room) ∧ Below w.heap.size w w' :=
  (new_any w base room hb).mono fun _ _ ⟨h1, h2, h3⟩ => ⟨h1, ⟨Ok.new room, FuOk.new room, ⟨_, _, _, _, _, _, _, _, _, h2, fun ad e => by cases e⟩, by omega, Nat.le_trans hb h3.size, Nat.zero_le _⟩, h3⟩
end
end Go.Proofs.Ytolkghdeppoanaa.SfK
