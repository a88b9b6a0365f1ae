/-
  A rack as data, what the document asks of it: pure.
-/
import Derived.Test.YtolkghdeppoanaaRkC
set_option linter.unusedVariables false
set_option linter.unusedSimpArgs false
namespace Go.Proofs.Ytolkghdeppoanaa.RkD
open Go.RowKit Go.Proofs.Ytolkghdeppoanaa.RkO Go.Proofs.Ytolkghdeppoanaa.RkC Go.Proofs.Ytolkghdeppoanaa.BxD

/-- A file: its name, its data. -/
abbrev F : Type := ByteArray × List UInt8
structure Ch where
  name : ByteArray
  cut : Bool
  data : List UInt8
def costs (l : List F) : Nat := (l.map fun f => f.1.size + f.2.length + 8).sum
def okN (s : ByteArray) : Bool := decide (1 ≤ s.size ∧ s.size ≤ 24)
abbrev putF (n : ByteArray) (d : List UInt8) (l : List F) : List F := put cmpS n d l
abbrev cutF (n : ByteArray) (l : List F) : List F := cut cmpS n l
abbrev hitF (n : ByteArray) (l : List F) : Bool := hit cmpS n l
abbrev SrtF (l : List F) : Prop := Srt cmpS l
def doneC (l : List F) (c : Ch) : List F := if c.cut then cutF c.name l else putF c.name c.data l
/-- Is the k-th one picked? -/
def picked (ps : List UInt8) (k : Nat) : Bool := match ps[k]? with
  | some b => b.toNat % 2 == 1
  | none => false
/-- Loose writes, the first of them the k-th, done on l, if they are picked. -/
def cr (ps : List UInt8) : List Ch → Nat → List F → List F
  | [], _, l => l
  | c :: r, k, l => cr ps r (k + 1) (if picked ps k then doneC l c else l)
structure St where
  room : Nat
  sure : List F
  files : List F
  loose : List Ch
  writes : Nat
  down : Bool
  fuse : Option Nat
def newS (room : Int) : St := ⟨(max 0 (min room 1000000)).toNat, [], [], [], 0, false, none⟩
/-- A write goes through, if the fuse lets it: c is done, the files are nx. -/
def goE (s : St) : Int := if s.fuse = some 0 then 5 else 0
def goS (s : St) (c : Ch) (nx : List F) : St :=
  if s.fuse = some 0 then { s with down := true } else { s with files := nx, loose := s.loose ++ [c], writes := s.writes + 1, fuse := s.fuse.map (· - 1) }
def wrBad (n : ByteArray) (d : List UInt8) : Bool := !okN n || decide (200000 < d.length)
def wrFull (s : St) (n : ByteArray) (d : List UInt8) : Bool := decide (40 < (putF n d s.files).length) || decide (s.room < costs (putF n d s.files))
def wrE (s : St) (n : ByteArray) (d : List UInt8) : Int := if wrBad n d then 1 else if s.down then 5 else if wrFull s n d then 4 else goE s
def wrS (s : St) (n : ByteArray) (d : List UInt8) : St := if wrBad n d then s else if s.down then s else if wrFull s n d then s else goS s ⟨n, false, d⟩ (putF n d s.files)
def ctE (s : St) (n : ByteArray) : Int := if !okN n then 1 else if s.down then 5 else if !hitF n s.files then 6 else goE s
def ctS (s : St) (n : ByteArray) : St := if !okN n then s else if s.down then s else if !hitF n s.files then s else goS s ⟨n, true, []⟩ (cutF n s.files)
def flE (s : St) : Int := if s.down then 5 else 0
def flS (s : St) : St := if s.down then s else { s with sure := s.files, loose := [] }
def crS (s : St) (ps : List UInt8) : St := { s with sure := cr ps s.loose 0 s.sure, files := cr ps s.loose 0 s.sure, loose := [], down := false, fuse := none }
def fuS (s : St) (f : Option Nat) : St := { s with fuse := f }
def rdF (s : St) (n : ByteArray) : Option (List UInt8) := if s.down then none else match s.files[lo cmpS n s.files]? with
  | some f => if f.1 = n then some f.2 else none
  | none => none

/-- Files that a rack of at most k files may have. -/
structure Fok (k : Nat) (l : List F) : Prop where
  srt : SrtF l
  len : l.length ≤ k
  sz : ∀ f ∈ l, f.1.size ≤ 24 ∧ f.2.length ≤ 200000
def Cok (c : Ch) : Prop := c.name.size ≤ 24 ∧ c.data.length ≤ 200000
/-- A rack behind k calls. -/
structure Ok (k : Nat) (s : St) : Prop where
  room : s.room ≤ 1000000
  sure : Fok s.sure.length s.sure
  files : Fok k s.files
  loose : s.sure.length + s.loose.length ≤ k
  ch : ∀ c ∈ s.loose, Cok c
  writes : s.writes ≤ k

theorem costs_append (a b : List F) : costs (a ++ b) = costs a + costs b := by simp [costs]
theorem costs_le : ∀ {l : List F}, (∀ f ∈ l, f.1.size ≤ 24 ∧ f.2.length ≤ 200000) → costs l ≤ l.length * 200032
  | [], _ => by simp [costs]
  | f :: r, h => by
    have h1 := h f (List.mem_cons_self ..)
    have h2 := costs_le (l := r) fun g hg => h g (List.mem_cons_of_mem _ hg)
    simp only [costs, List.map_cons, List.sum_cons, List.length_cons] at h2 ⊢
    omega
theorem costs_take {l : List F} {i : Nat} {f : F} (h : l[i]? = some f) : costs (l.take (i + 1)) = costs (l.take i) + (f.1.size + f.2.length + 8) := by
  obtain ⟨hl, rfl⟩ := List.getElem?_eq_some_iff.1 h
  rw [List.take_succ_eq_append_getElem hl, costs_append]; simp [costs]
theorem Fok.cost {k : Nat} {l : List F} (h : Fok k l) : costs l ≤ k * 200032 := Nat.le_trans (costs_le h.sz) (Nat.mul_le_mul_right _ h.len)
theorem Fok.mono {k m : Nat} {l : List F} (h : Fok k l) (hk : k ≤ m) : Fok m l := ⟨h.srt, Nat.le_trans h.len hk, h.sz⟩
theorem Fok.nil (k : Nat) : Fok k [] := ⟨List.Pairwise.nil, Nat.zero_le _, fun f hf => by simp at hf⟩
theorem mem_put {n : ByteArray} {d : List UInt8} {l : List F} {f : F} (h : f ∈ putF n d l) : f = (n, d) ∨ f ∈ l := by
  unfold putF put at h
  split at h
  · unfold upd at h
    rcases List.mem_or_eq_of_mem_set h with h | h
    · exact .inr h
    · exact .inl h
  · unfold ins at h
    rw [List.mem_append, List.mem_cons] at h
    rcases h with h | h | h
    · exact .inr (List.mem_of_mem_take h)
    · exact .inl h
    · exact .inr (List.mem_of_mem_drop h)
theorem mem_cut {n : ByteArray} {l : List F} {f : F} (h : f ∈ cutF n l) : f ∈ l := by
  unfold cutF cut at h
  split at h
  · rw [List.mem_append] at h
    rcases h with h | h
    · exact List.mem_of_mem_take h
    · exact List.mem_of_mem_drop h
  · exact h
theorem Fok.put {k : Nat} {l : List F} (h : Fok k l) {n : ByteArray} {d : List UInt8} (hn : n.size ≤ 24) (hd : d.length ≤ 200000) : Fok (k + 1) (putF n d l) := by
  refine ⟨srt_put ordS h.srt, ?_, fun f hf => ?_⟩
  · have := h.len
    rw [length_put]
    split <;> omega
  · rcases mem_put hf with rfl | hf
    · exact ⟨hn, hd⟩
    · exact h.sz f hf
theorem Fok.cut {k : Nat} {l : List F} (h : Fok k l) {n : ByteArray} : Fok k (cutF n l) := by
  refine ⟨srt_cut h.srt, ?_, fun f hf => h.sz f (mem_cut hf)⟩
  have := h.len
  rw [length_cut]
  split <;> omega
theorem Fok.done {k : Nat} {l : List F} (h : Fok k l) {c : Ch} (hc : Cok c) : Fok (k + 1) (doneC l c) := by
  unfold doneC
  split
  · exact h.cut.mono (Nat.le_succ k)
  · exact h.put hc.1 hc.2
theorem cr_ok {ps : List UInt8} : ∀ {cs : List Ch} {i k : Nat} {l : List F}, Fok k l → (∀ c ∈ cs, Cok c) → Fok (k + cs.length) (cr ps cs i l)
  | [], i, k, l, h, _ => h
  | c :: r, i, k, l, h, hc => by
    unfold cr
    have hr : ∀ c ∈ r, Cok c := fun c h => hc c (List.mem_cons_of_mem _ h)
    have h1 : Fok (k + 1) (if picked ps i then doneC l c else l) := by
      split
      · exact h.done (hc c (List.mem_cons_self ..))
      · exact h.mono (Nat.le_succ k)
    have := cr_ok (ps := ps) (i := i + 1) h1 hr
    rw [List.length_cons, show k + (r.length + 1) = k + 1 + r.length by omega]
    exact this
theorem Fok.self {k : Nat} {l : List F} (h : Fok k l) : Fok l.length l := ⟨h.srt, Nat.le_refl _, h.sz⟩
theorem Ok.mono {k m : Nat} {s : St} (h : Ok k s) (hk : k ≤ m) : Ok m s := ⟨h.room, h.sure, h.files.mono hk, Nat.le_trans h.loose hk, h.ch, Nat.le_trans h.writes hk⟩
theorem Ok.new (r : Int) : Ok 0 (newS r) := ⟨by show (max 0 (min r 1000000)).toNat ≤ 1000000; omega, Fok.nil _, Fok.nil _, Nat.le_refl _, fun c hc => by simp [newS] at hc, Nat.le_refl _⟩
theorem Ok.go {k : Nat} {s : St} (h : Ok k s) {c : Ch} {nx : List F} (hc : Cok c) (hn : Fok (k + 1) nx) : Ok (k + 1) (goS s c nx) := by
  unfold goS
  split
  · exact ⟨h.room, h.sure, h.files.mono (Nat.le_succ k), Nat.le_trans h.loose (Nat.le_succ k), h.ch, Nat.le_trans h.writes (Nat.le_succ k)⟩
  · refine ⟨h.room, h.sure, hn, ?_, ?_, Nat.succ_le_succ h.writes⟩
    · have := h.loose
      simp; omega
    · intro c' hc'
      rcases List.mem_append.1 hc' with h1 | h1
      · exact h.ch c' h1
      · obtain rfl := List.mem_singleton.1 h1; exact hc
theorem okN_size {n : ByteArray} (h : okN n = true) : 1 ≤ n.size ∧ n.size ≤ 24 := of_decide_eq_true h
theorem wr_ok {n : ByteArray} {d : List UInt8} (h : wrBad n d = false) : n.size ≤ 24 ∧ d.length ≤ 200000 := by
  unfold wrBad at h
  rw [Bool.or_eq_false_iff] at h
  have h1 := okN_size (n := n) (by simpa using h.1)
  have h2 := of_decide_eq_false h.2
  omega
theorem Ok.wr {k : Nat} {s : St} (h : Ok k s) (n : ByteArray) (d : List UInt8) : Ok (k + 1) (wrS s n d) := by
  unfold wrS
  cases hb : wrBad n d with
  | true => rw [if_pos rfl]; exact h.mono (Nat.le_succ k)
  | false =>
    rw [if_neg (by decide)]
    split
    · exact h.mono (Nat.le_succ k)
    · split
      · exact h.mono (Nat.le_succ k)
      · obtain ⟨h1, h2⟩ := wr_ok hb
        exact h.go ⟨h1, h2⟩ (h.files.put h1 h2)
theorem Ok.ct {k : Nat} {s : St} (h : Ok k s) (n : ByteArray) : Ok (k + 1) (ctS s n) := by
  unfold ctS
  cases hb : okN n with
  | false => rw [if_pos (by rfl)]; exact h.mono (Nat.le_succ k)
  | true =>
    rw [if_neg (by decide)]
    split
    · exact h.mono (Nat.le_succ k)
    · split
      · exact h.mono (Nat.le_succ k)
      · exact h.go ⟨(okN_size hb).2, Nat.zero_le _⟩ (h.files.cut.mono (Nat.le_succ k))
theorem Ok.fl {k : Nat} {s : St} (h : Ok k s) : Ok k (flS s) := by
  unfold flS
  split
  · exact h
  · exact ⟨h.room, h.files.self, h.files, by simpa using h.files.len, fun c hc => by simp at hc, h.writes⟩
theorem Ok.cr {k : Nat} {s : St} (h : Ok k s) (ps : List UInt8) : Ok k (crS s ps) := by
  have h1 := cr_ok (ps := ps) (i := 0) h.sure h.ch
  have h2 := h1.mono h.loose
  exact ⟨h.room, h1.self, h2, by simpa [crS] using h2.len, fun c hc => by simp [crS] at hc, h.writes⟩
theorem Ok.fu {k : Nat} {s : St} (h : Ok k s) (f : Option Nat) : Ok k (fuS s f) := ⟨h.room, h.sure, h.files, h.loose, h.ch, h.writes⟩
end Go.Proofs.Ytolkghdeppoanaa.RkD
