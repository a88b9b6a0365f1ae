/-
  A rack of the call's own: what each call does to it, old memory untouched.
-/
import Derived.Test.YtolkghdeppoanaaRkT
set_option linter.unusedVariables false
set_option linter.unusedSimpArgs false
namespace Go.Proofs.Ytolkghdeppoanaa.RkG
open Go.RowKit Go.Proofs.Ytolkghdeppoanaa.BxD Go.Proofs.Ytolkghdeppoanaa.BxKit Go.Proofs.Ytolkghdeppoanaa.RkO Go.Proofs.Ytolkghdeppoanaa.RkC Go.Proofs.Ytolkghdeppoanaa.RkD Go.Proofs.Ytolkghdeppoanaa.RkR Go.Proofs.Ytolkghdeppoanaa.RkK Go.Proofs.Ytolkghdeppoanaa.RkP Go.Proofs.Ytolkghdeppoanaa.RkQ Go.Proofs.Ytolkghdeppoanaa.RkE Go.Proofs.Ytolkghdeppoanaa.RkS Go.Proofs.Ytolkghdeppoanaa.RkM Go.Proofs.Ytolkghdeppoanaa.RkN Go.Proofs.Ytolkghdeppoanaa.RkV Go.Proofs.Ytolkghdeppoanaa.RkW Go.Proofs.Ytolkghdeppoanaa.RkU Go.Proofs.Ytolkghdeppoanaa.RkT

def FuOk (s : St) : Prop := fuseV s.fuse ≤ 9223372036854775807
set_option maxRecDepth 100000 in
theorem FuOk.new (r : Int) : FuOk (newS r) := by unfold FuOk newS fuseV; simp
set_option maxRecDepth 100000 in
theorem FuOk.go {s : St} (h : FuOk s) (c : Ch) (nx : List F) : FuOk (goS s c nx) := by
  unfold goS
  split
  · exact h
  · unfold FuOk fuseV at h ⊢
    cases hf : s.fuse with
    | none => simp
    | some m => rw [hf] at h; simp at h ⊢; omega
set_option maxRecDepth 100000 in
theorem FuOk.wr {s : St} (h : FuOk s) (n : ByteArray) (d : List UInt8) : FuOk (wrS s n d) := by
  unfold wrS
  split
  · exact h
  · split
    · exact h
    · split
      · exact h
      · exact h.go _ _
set_option maxRecDepth 100000 in
theorem FuOk.ct {s : St} (h : FuOk s) (n : ByteArray) : FuOk (ctS s n) := by
  unfold ctS
  split
  · exact h
  · split
    · exact h
    · split
      · exact h
      · exact h.go _ _
set_option maxRecDepth 100000 in
theorem FuOk.fl {s : St} (h : FuOk s) : FuOk (flS s) := by unfold flS; split <;> exact h
set_option maxRecDepth 100000 in
theorem FuOk.cr (s : St) (ps : List UInt8) : FuOk (crS s ps) := by unfold FuOk crS fuseV; simp
set_option maxRecDepth 100000 in
theorem FuOk.fu (s : St) (n : Int) (h : n ≤ 9223372036854775807) : FuOk (fuS s (fuO n)) := by
  unfold FuOk fuS fuO fuseV
  split <;> simp <;> omega
/-- Behind at most k calls the rack at T, of the call's own, is as s says; old memory is as it was. -/
structure RkB (w0 wr : World) (T k : Nat) (s : St) : Prop where
  bel : Below w0.heap.size w0 wr
  ok : Ok k s
  fu : FuOk s
  rk : ∃ SA sn sc FA fn fcp LA ln lc, Rk wr w0.heap.size T s SA sn sc FA fn fcp LA ln lc
set_option maxRecDepth 100000 in
theorem RkB.below {w0 wr w' : World} {T k : Nat} {s : St} (h : RkB w0 wr T k s) (hb : Below wr.heap.size wr w') : RkB w0 w' T k s := by
  obtain ⟨h1, h2, h3, SA, sn, sc, FA, fn, fcp, LA, ln, lc, h4⟩ := h
  exact ⟨h1.trans (hb.mono h1.size), h2, h3, _, _, _, _, _, _, _, _, _, h4.below hb⟩
set_option maxRecDepth 100000 in
theorem RkB.alloc {w0 wr : World} {T k : Nat} {s : St} (h : RkB w0 wr T k s) (o : Obj) : RkB w0 (wr.alloc o) T k s := h.below (below_alloc wr o)
set_option maxRecDepth 100000 in
theorem RkB.drew {w0 wr : World} {T k : Nat} {s : St} (h : RkB w0 wr T k s) : RkB w0 wr.drew T k s := h.below ((Below.refl _ _).drew)
set_option maxRecDepth 100000 in
theorem RkB.mono {w0 wr : World} {T k m : Nat} {s : St} (h : RkB w0 wr T k s) (hk : k ≤ m) : RkB w0 wr T m s := ⟨h.bel, h.ok.mono hk, h.fu, h.rk⟩
set_option maxRecDepth 100000 in
theorem RkB.post {w0 wr w' : World} {T k : Nat} {s s' : St} {SA FA LA : Option Addr} {sn sc fn fcp ln lc : Nat} {e0 e : Ending} (hb : Below w0.heap.size w0 wr) (h : Rk wr w0.heap.size T s SA sn sc FA fn fcp LA ln lc) (ok : Ok k s') (fu : FuOk s') (p : RkPost wr w0.heap.size T LA s' e0 e w') : e = e0 ∧ RkB w0 w' T k s' := by
  obtain ⟨he, LA', ⟨SA', sn', sc', FA', fn', fcp', ln', lc', hr⟩, hf, _⟩ := p
  exact ⟨he, hb.trans (hf.old hb.size h.low h.lb), ok, fu, _, _, _, _, _, _, _, _, _, hr⟩
section
variable {w0 w : World} {T k : Nat} {s : St}
set_option maxRecDepth 100000 in
theorem newB (w0 wr : World) (hb : Below w0.heap.size w0 wr) (room : Int) : Calls Try.prog 16 #[.int .i64 room] wr fun e w' => e = .returned (ptr wr.heap.size) ∧ RkB w0 w' wr.heap.size 0 (newS room) :=
  (new_any wr w0.heap.size room hb.size).mono fun _ _ ⟨h1, h2, h3⟩ => ⟨h1, hb.trans (h3.mono hb.size), Ok.new room, FuOk.new room, _, _, _, _, _, _, _, _, _, h2⟩
set_option maxRecDepth 100000 in
theorem WriteB (h : RkB w0 w T k s) (h6 : k ≤ 900) {D : Option Addr} {dn dc B : Nat} (n : ByteArray) {d : List UInt8} (hD : PkKit.BytesAt w B D dn d) (hB : B ≤ w.heap.size) :
    Calls Try.prog 41 #[ptr T, .string n, .slice D dn dc] w fun e w' => e = .returned (.int .i64 (wrE s n d)) ∧ RkB w0 w' T (k + 1) (wrS s n d) := by
  obtain ⟨h1, h2, h3, SA, sn, sc, FA, fn, fcp, LA, ln, lc, h4⟩ := h
  exact (Write_any h4 h2 h6 hD hB h1.size h3).mono fun _ _ p => RkB.post h1 h4 (h2.wr n d) (h3.wr n d) p
set_option maxRecDepth 100000 in
theorem CutB (h : RkB w0 w T k s) (h6 : k ≤ 900) (n : ByteArray) : Calls Try.prog 63 #[ptr T, .string n] w fun e w' => e = .returned (.int .i64 (ctE s n)) ∧ RkB w0 w' T (k + 1) (ctS s n) := by
  obtain ⟨h1, h2, h3, SA, sn, sc, FA, fn, fcp, LA, ln, lc, h4⟩ := h
  exact (Cut_any h4 h2 h6 h1.size h3).mono fun _ _ p => RkB.post h1 h4 (h2.ct n) (h3.ct n) p
set_option maxRecDepth 100000 in
theorem FlushB (h : RkB w0 w T k s) : Calls Try.prog 42 #[ptr T] w fun e w' => e = .returned (.int .i64 (flE s)) ∧ RkB w0 w' T k (flS s) := by
  obtain ⟨h1, h2, h3, SA, sn, sc, FA, fn, fcp, LA, ln, lc, h4⟩ := h
  exact (flush_any h4).mono fun _ _ p => RkB.post h1 h4 h2.fl h3.fl p
set_option maxRecDepth 100000 in
theorem CrashB (h : RkB w0 w T k s) (h6 : k ≤ 900) {D : Option Addr} {dn dc B : Nat} {ps : List UInt8} (hD : PkKit.BytesAt w B D dn ps) (hB : B ≤ w.heap.size) (hdn : dn ≤ 100000000) :
    Calls Try.prog 23 #[ptr T, .slice D dn dc] w fun e w' => e = .returned (.tuple #[]) ∧ RkB w0 w' T k (crS s ps) := by
  obtain ⟨h1, h2, h3, SA, sn, sc, FA, fn, fcp, LA, ln, lc, h4⟩ := h
  exact (crash_any h4 h2 h6 hD hB hdn).mono fun _ _ p => RkB.post h1 h4 (h2.cr ps) (FuOk.cr s ps) p
set_option maxRecDepth 100000 in
theorem FuseB (h : RkB w0 w T k s) (n : Int) (hn : n ≤ 9223372036854775807) : Calls Try.prog 22 #[ptr T, .int .i64 n] w fun e w' => e = .returned (.tuple #[]) ∧ RkB w0 w' T k (fuS s (fuO n)) := by
  obtain ⟨h1, h2, h3, SA, sn, sc, FA, fn, fcp, LA, ln, lc, h4⟩ := h
  exact (fuse_any h4 n).mono fun _ _ p => RkB.post h1 h4 (h2.fu _) (FuOk.fu s n hn) p
set_option maxRecDepth 100000 in
theorem ReadB (h : RkB w0 w T k s) (h6 : k ≤ 1000) (n : ByteArray) : Calls Try.prog 39 #[ptr T, .string n] w (RdPost (rdF s n) w) := by
  obtain ⟨h1, h2, h3, SA, sn, sc, FA, fn, fcp, LA, ln, lc, h4⟩ := h
  exact read_any h4 h2 h6 n
set_option maxRecDepth 100000 in
theorem NamesB (h : RkB w0 w T k s) (h6 : k ≤ 1000) : Calls Try.prog 51 #[ptr T] w (NmPost (s.files.map (·.1)) w) := by
  obtain ⟨h1, h2, h3, SA, sn, sc, FA, fn, fcp, LA, ln, lc, h4⟩ := h
  exact names_any h4 h2 h6
set_option maxRecDepth 100000 in
theorem SizeB (h : RkB w0 w T k s) (h6 : k ≤ 1000) : Calls Try.prog 45 #[ptr T] w fun e w' => e = .returned (.int .i64 (costs s.files : Nat)) ∧ Below w.heap.size w w' := by
  obtain ⟨h1, h2, h3, SA, sn, sc, FA, fn, fcp, LA, ln, lc, h4⟩ := h
  exact size_any h4 h2 h6
set_option maxRecDepth 100000 in
theorem RoomB (h : RkB w0 w T k s) (h6 : k ≤ 1000) : Calls Try.prog 46 #[ptr T] w fun e w' => e = .returned (.int .i64 ((s.room : Int) - (costs s.files : Nat))) ∧ Below w.heap.size w w' := by
  obtain ⟨h1, h2, h3, SA, sn, sc, FA, fn, fcp, LA, ln, lc, h4⟩ := h
  exact room_any h4 h2 h6
set_option maxRecDepth 100000 in
theorem LooseB (h : RkB w0 w T k s) : Calls Try.prog 27 #[ptr T] w fun e w' => e = .returned (.int .i64 (s.loose.length : Nat)) ∧ w = w' := by
  obtain ⟨h1, h2, h3, SA, sn, sc, FA, fn, fcp, LA, ln, lc, h4⟩ := h
  rw [h4.loose.len]
  exact loose_any h4
set_option maxRecDepth 100000 in
theorem DownB (h : RkB w0 w T k s) : Calls Try.prog 38 #[ptr T] w fun e w' => e = .returned (.bool s.down) ∧ w = w' := by
  obtain ⟨h1, h2, h3, SA, sn, sc, FA, fn, fcp, LA, ln, lc, h4⟩ := h
  exact down_any h4
set_option maxRecDepth 100000 in
theorem WritesB (h : RkB w0 w T k s) : Calls Try.prog 28 #[ptr T] w fun e w' => e = .returned (.int .i64 (s.writes : Nat)) ∧ w = w' := by
  obtain ⟨h1, h2, h3, SA, sn, sc, FA, fn, fcp, LA, ln, lc, h4⟩ := h
  exact writes_any h4
set_option maxRecDepth 100000 in
theorem SureB (h : RkB w0 w T k s) (h6 : k ≤ 1000) : Calls Try.prog 20 #[ptr T] w (SuPost s.sure w) := by
  obtain ⟨h1, h2, h3, SA, sn, sc, FA, fn, fcp, LA, ln, lc, h4⟩ := h
  exact sure_any h4 h2 h6
end
end Go.Proofs.Ytolkghdeppoanaa.RkG
