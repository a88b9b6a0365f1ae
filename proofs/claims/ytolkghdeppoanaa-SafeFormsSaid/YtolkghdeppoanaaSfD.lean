/-
  Changes as data, their bytes, what a safe does to a rack, step by step: pure.
-/
import Derived.Test.YtolkghdeppoanaaRkD
import Derived.Test.YtolkghdeppoanaaSfB
set_option linter.unusedVariables false
set_option linter.unusedSimpArgs false
namespace Go.Proofs.Ytolkghdeppoanaa.SfD
open Go.RowKit Go.Proofs.Ytolkghdeppoanaa.RkO Go.Proofs.Ytolkghdeppoanaa.RkC Go.Proofs.Ytolkghdeppoanaa.RkD Go.Proofs.Ytolkghdeppoanaa.BxD

/-- The safe's own file. -/
abbrev nR : ByteArray := ⟨#[61, 114, 101, 100, 111]⟩
theorem okR : okN nR = true := by decide

/-! ## One change, several, on a rack -/
def doE (s : St) (c : Ch) : Int := if c.cut then (if hitF c.name s.files then ctE s c.name else 0) else wrE s c.name c.data
def doS (s : St) (c : Ch) : St := if c.cut then (if hitF c.name s.files then ctS s c.name else s) else wrS s c.name c.data
/-- Up to the first error. -/
def dosE (s : St) : List Ch → Int
  | [] => 0
  | c :: r => if doE s c ≠ 0 then doE s c else dosE (doS s c) r
def dosS (s : St) : List Ch → St
  | [] => s
  | c :: r => if doE s c ≠ 0 then doS s c else dosS (doS s c) r
/-- Flush, the redo away, flush. -/
def endE (s : St) : Int := if flE s ≠ 0 then flE s else if ctE (flS s) nR ≠ 0 then ctE (flS s) nR else flE (ctS (flS s) nR)
def endS (s : St) : St := if flE s ≠ 0 then flS s else if ctE (flS s) nR ≠ 0 then ctS (flS s) nR else flS (ctS (flS s) nR)
def finE (s : St) (l : List Ch) : Int := if dosE s l ≠ 0 then dosE s l else endE (dosS s l)
def finS (s : St) (l : List Ch) : St := if dosE s l ≠ 0 then dosS s l else endS (dosS s l)
theorem Ok.doS {k : Nat} {s : St} (h : Ok k s) (c : Ch) : Ok (k + 1) (doS s c) := by
  unfold SfD.doS
  split
  · split
    · exact h.ct _
    · exact h.mono (Nat.le_succ k)
  · exact h.wr _ _
theorem Ok.dosS : ∀ {l : List Ch} {k : Nat} {s : St}, Ok k s → Ok (k + l.length) (dosS s l)
  | [], _, _, h => h
  | c :: r, k, s, h => by
    unfold SfD.dosS
    split
    · exact (Ok.doS h c).mono (by simp)
    · have := Ok.dosS (l := r) (Ok.doS h c)
      exact this.mono (by simp; omega)
theorem dosS_snoc {l : List Ch} {c : Ch} : ∀ {s : St}, dosE s l = 0 → dosE s (l ++ [c]) = doE (dosS s l) c ∧ dosS s (l ++ [c]) = doS (dosS s l) c := by
  induction l with
  | nil =>
    intro s _
    simp only [List.nil_append, dosE, dosS]
    by_cases h : doE s c = 0 <;> simp [h]
  | cons a r ih =>
    intro s h
    simp only [List.cons_append, dosE, dosS] at h ⊢
    by_cases h0 : doE s a = 0
    · simp only [h0, ne_eq, not_true_eq_false, if_false] at h ⊢
      exact ih h
    · simp only [ne_eq, h0, not_false_eq_true, if_true] at h
/-- The first error, whatever comes behind it. -/
theorem dosS_stop {l m : List Ch} : ∀ {s : St}, dosE s l ≠ 0 → dosE s (l ++ m) = dosE s l ∧ dosS s (l ++ m) = dosS s l := by
  induction l with
  | nil => intro s h; exact absurd rfl h
  | cons a r ih =>
    intro s h
    simp only [List.cons_append, dosE, dosS] at h ⊢
    by_cases h0 : doE s a = 0
    · simp only [h0, ne_eq, not_true_eq_false, if_false] at h ⊢
      exact ih h
    · simp only [ne_eq, h0, not_false_eq_true, if_true]
      exact ⟨trivial, trivial⟩

/-! ## What costs, at most -/
/-- A name's greatest cost so far. -/
def mxu (n : ByteArray) (c : Nat) : List (ByteArray × Nat) → List (ByteArray × Nat)
  | [] => [(n, c)]
  | p :: r => if p.1 = n then (n, max p.2 c) :: r else p :: mxu n c r
def cst (n : ByteArray) (d : List UInt8) : Nat := n.size + d.length + 8
def gr1 (l : List F) (m : List (ByteArray × Nat)) : List (ByteArray × Nat) := l.foldl (fun m f => mxu f.1 (cst f.1 f.2) m) m
def gr2 (l : List Ch) (m : List (ByteArray × Nat)) : List (ByteArray × Nat) := l.foldl (fun m c => if c.cut then m else mxu c.name (cst c.name c.data) m) m
def grt (s : St) (b : List UInt8) (l : List Ch) : List (ByteArray × Nat) := gr2 l (mxu nR (cst nR b) (gr1 s.files []))
def sum2 (m : List (ByteArray × Nat)) : Nat := (m.map (·.2)).sum

/-! ## Whether changes may be, and fit -/
def chBad (c : Ch) : Bool := decide (c.name = nR) || (decide (c.name.size = 0) || (decide (24 < c.name.size) || decide (200000 < c.data.length)))
def mayL (l : List Ch) : Bool := l.all (fun c => !chBad c) && decide ((l.map (·.name)).Nodup)
def fitE (s : St) (l : List Ch) : Int :=
  if s.down then 5 else if !mayL l then 1 else if 200000 < (SfB.bsL l).length then 4
  else if 40 < (grt s (SfB.bsL l) l).length ∨ s.room < sum2 (grt s (SfB.bsL l) l) then 4 else 0
end Go.Proofs.Ytolkghdeppoanaa.SfD
