/-
  A rack and the document's, side by side.
-/
import Derived.Test.YtefgcckdlebfaaaRfC
import Derived.Test.YtefgcckdlebfaaaRkG
namespace Go.Proofs.Ytefgcckdlebfaaa.RfT
open Go.RowKit Go.Proofs.Ytefgcckdlebfaaa.BxD Go.Proofs.Ytefgcckdlebfaaa.BxKit Go.Proofs.Ytefgcckdlebfaaa.RkO Go.Proofs.Ytefgcckdlebfaaa.RkC Go.Proofs.Ytefgcckdlebfaaa.RkD Go.Proofs.Ytefgcckdlebfaaa.RkR Go.Proofs.Ytefgcckdlebfaaa.RkK Go.Proofs.Ytefgcckdlebfaaa.RkP Go.Proofs.Ytefgcckdlebfaaa.RkQ Go.Proofs.Ytefgcckdlebfaaa.RkE Go.Proofs.Ytefgcckdlebfaaa.RkS Go.Proofs.Ytefgcckdlebfaaa.RkM Go.Proofs.Ytefgcckdlebfaaa.RkN Go.Proofs.Ytefgcckdlebfaaa.RkV Go.Proofs.Ytefgcckdlebfaaa.RkW Go.Proofs.Ytefgcckdlebfaaa.RkU Go.Proofs.Ytefgcckdlebfaaa.RkT Go.Proofs.Ytefgcckdlebfaaa.RkG Go.Proofs.Ytefgcckdlebfaaa.RfA Go.Proofs.Ytefgcckdlebfaaa.RfP Go.Proofs.Ytefgcckdlebfaaa.RfS

/-! ## Pure: as like as they may be -/
def FuRel (k : Nat) (s t : St) : Prop := s.down = true ∨ t.fuse = s.fuse ∨ (t.fuse = none ∧ ∃ m, s.fuse = some m ∧ 1099511627776 ≤ m + k)
structure Rel (k : Nat) (s t : St) : Prop where
  room : t.room = s.room
  sure : t.sure = s.sure
  files : t.files = s.files
  loose : t.loose = s.loose
  writes : t.writes = s.writes
  down : t.down = s.down
  fuse : FuRel k s t
theorem Rel.mono {k m : Nat} {s t : St} (h : Rel k s t) (hk : k ≤ m) : Rel m s t := by
  obtain ⟨h1, h2, h3, h4, h5, h6, h7⟩ := h
  refine ⟨h1, h2, h3, h4, h5, h6, ?_⟩
  rcases h7 with h | h | ⟨h, n, e, hn⟩
  · exact .inl h
  · exact .inr (.inl h)
  · exact .inr (.inr ⟨h, n, e, by omega⟩)
theorem Rel.new (r : Int) : Rel 0 (newS r) (newS r) := ⟨rfl, rfl, rfl, rfl, rfl, rfl, .inr (.inl rfl)⟩
theorem Rel.goE {k : Nat} {s t : St} (h : Rel k s t) (hk : k ≤ 1000) (hd : s.down = false) : goE t = goE s := by
  unfold RkD.goE
  rcases h.fuse with h | h | ⟨h, n, e, hn⟩
  · rw [hd] at h; cases h
  · rw [h]
  · rw [h, e, if_neg (by simp), if_neg (by intro h; have := Option.some.inj h; omega)]
theorem Rel.go {k : Nat} {s t : St} (h : Rel k s t) (hk : k ≤ 1000) (hd : s.down = false) (c : Ch) (nx : List F) : Rel (k + 1) (goS s c nx) (goR t c nx) := by
  obtain ⟨h1, h2, h3, h4, h5, h6, h7⟩ := h
  unfold goS goR bnS
  rcases h7 with h | h | ⟨h, n, e, hn⟩
  · rw [hd] at h; cases h
  · cases hf : s.fuse with
    | none =>
      rw [hf] at h
      simp only [h]
      refine ⟨h1, h2, rfl, ?_, ?_, h6, .inr (.inl (by rfl))⟩
      · show t.loose ++ [c] = s.loose ++ [c]; rw [h4]
      · show t.writes + 1 = s.writes + 1; rw [h5]
    | some m =>
      rw [hf] at h
      cases m with
      | zero =>
        simp only [h, if_true]
        exact ⟨h1, h2, h3, h4, h5, rfl, .inl rfl⟩
      | succ m =>
        simp only [h]
        rw [if_neg (by simp), if_neg (by simp)]
        refine ⟨h1, h2, rfl, ?_, ?_, h6, .inr (.inl (by simp))⟩
        · show t.loose ++ [c] = s.loose ++ [c]; rw [h4]
        · show t.writes + 1 = s.writes + 1; rw [h5]
  · have hn0 : ¬ (s.fuse = some 0) := by rw [e]; intro h; have := Option.some.inj h; omega
    simp only [h]
    rw [if_neg hn0, if_neg (by simp)]
    refine ⟨h1, h2, rfl, ?_, ?_, h6, .inr (.inr ⟨rfl, n - 1, by rw [e]; rfl, by omega⟩)⟩
    · show t.loose ++ [c] = s.loose ++ [c]; rw [h4]
    · show t.writes + 1 = s.writes + 1; rw [h5]
theorem Rel.full {k : Nat} {s t : St} (h : Rel k s t) (n : ByteArray) (d : List UInt8) : wrFull t n d = wrFull s n d := by unfold wrFull; rw [h.files, h.room]
theorem Rel.wrE {k : Nat} {s t : St} (h : Rel k s t) (hk : k ≤ 1000) (n : ByteArray) (d : List UInt8) : RkD.wrE t n d = RkD.wrE s n d := by
  unfold RkD.wrE
  rw [h.down, h.full]
  cases hd : s.down with
  | true => rfl
  | false => rw [h.goE hk hd]
theorem Rel.ctE {k : Nat} {s t : St} (h : Rel k s t) (hk : k ≤ 1000) (n : ByteArray) : RkD.ctE t n = RkD.ctE s n := by
  unfold RkD.ctE
  rw [h.down, h.files]
  cases hd : s.down with
  | true => rfl
  | false => rw [h.goE hk hd]
theorem Rel.flE {k : Nat} {s t : St} (h : Rel k s t) : RkD.flE t = RkD.flE s := by unfold RkD.flE; rw [h.down]
theorem Rel.wr {k : Nat} {s t : St} (h : Rel k s t) (hk : k ≤ 1000) (n : ByteArray) (d : List UInt8) : Rel (k + 1) (wrS s n d) (wrR t n d) := by
  unfold wrS wrR
  rw [h.down, h.full]
  by_cases hb : wrBad n d = true
  · rw [if_pos hb, if_pos hb]; exact h.mono (Nat.le_succ k)
  rw [if_neg hb, if_neg hb]
  by_cases hd : s.down = true
  · rw [if_pos hd, if_pos hd]; exact h.mono (Nat.le_succ k)
  rw [if_neg hd, if_neg hd]
  by_cases hf : wrFull s n d = true
  · rw [if_pos hf, if_pos hf]; exact h.mono (Nat.le_succ k)
  rw [if_neg hf, if_neg hf, h.files]
  exact h.go hk (by simpa using hd) _ _
theorem Rel.ct {k : Nat} {s t : St} (h : Rel k s t) (hk : k ≤ 1000) (n : ByteArray) : Rel (k + 1) (ctS s n) (ctR t n) := by
  unfold ctS ctR
  rw [h.down, h.files]
  by_cases hb : (!okN n) = true
  · rw [if_pos hb, if_pos hb]; exact h.mono (Nat.le_succ k)
  rw [if_neg hb, if_neg hb]
  by_cases hd : s.down = true
  · rw [if_pos hd, if_pos hd]; exact h.mono (Nat.le_succ k)
  rw [if_neg hd, if_neg hd]
  by_cases hf : (!hitF n s.files) = true
  · rw [if_pos hf, if_pos hf]; exact h.mono (Nat.le_succ k)
  rw [if_neg hf, if_neg hf]
  exact h.go hk (by simpa using hd) _ _
theorem Rel.fl {k : Nat} {s t : St} (h : Rel k s t) : Rel k (flS s) (flS t) := by
  unfold flS
  rw [h.down]
  by_cases hd : s.down = true
  · rw [if_pos hd, if_pos hd]; exact h
  rw [if_neg hd, if_neg hd]
  exact ⟨h.room, h.files, h.files, rfl, h.writes, rfl, h.fuse⟩
theorem Rel.cr {k : Nat} {s t : St} (h : Rel k s t) (ps : List UInt8) : Rel k (crS s ps) (crS t ps) := by
  obtain ⟨h1, h2, h3, h4, h5, h6, h7⟩ := h
  unfold crS
  rw [h2, h4]
  exact ⟨h1, rfl, rfl, rfl, h5, rfl, .inr (.inl rfl)⟩
theorem Rel.fu {k : Nat} {s t : St} (h : Rel k s t) (n : Int) : Rel k (fuS s (fuO n)) (fuR t n) := by
  obtain ⟨h1, h2, h3, h4, h5, h6, h7⟩ := h
  refine ⟨h1, h2, h3, h4, h5, h6, ?_⟩
  unfold FuRel fuS fuR fuO
  by_cases h0 : n < 0
  · right; left
    show (if 0 ≤ n ∧ n < 1099511627776 then some n.toNat else none) = if n < 0 then none else some n.toNat
    rw [if_pos h0, if_neg (by omega)]
  · by_cases h9 : n < 1099511627776
    · right; left
      show (if 0 ≤ n ∧ n < 1099511627776 then some n.toNat else none) = if n < 0 then none else some n.toNat
      rw [if_neg h0, if_pos ⟨by omega, h9⟩]
    · right; right
      refine ⟨?_, n.toNat, ?_, by omega⟩
      · show (if 0 ≤ n ∧ n < 1099511627776 then some n.toNat else none) = none
        rw [if_neg (by omega)]
      · show (if n < 0 then none else some n.toNat) = some n.toNat
        rw [if_neg h0]
theorem ok_rel {k : Nat} {s t : St} (h : Ok k s) (r : t.room = s.room) (u : t.sure = s.sure) (f : t.files = s.files) (l : t.loose = s.loose) (w : t.writes = s.writes) : Ok k t :=
  ⟨by rw [r]; exact h.room, by rw [u]; exact h.sure, by rw [f]; exact h.files, by rw [u, l]; exact h.loose, by rw [l]; exact h.ch, by rw [w]; exact h.writes⟩
theorem Rel.ok {k m : Nat} {s t : St} (h : Rel m s t) (hk : Ok k s) : Ok k t := ok_rel hk h.room h.sure h.files h.loose h.writes
def FuR (t : St) : Prop := leftV t.fuse ≤ 9223372036854775807
theorem FuR.new (r : Int) : FuR (newS r) := by show (0 : Int) ≤ 9223372036854775807; decide
theorem FuR.bn {t : St} (h : FuR t) : FuR (bnS t) := by
  unfold FuR bnS at *
  split
  · exact h
  · show (0 : Int) ≤ 9223372036854775807; decide
  · rename_i n hn
    rw [hn] at h
    have h2 : ((n + 1 : Nat) : Int) + 1 ≤ 9223372036854775807 := h
    show (n : Int) + 1 ≤ _
    omega
theorem FuR.go {t : St} (h : FuR t) (c : Ch) (nx : List F) : FuR (goR t c nx) := by
  unfold goR
  split
  · exact h.bn
  · exact h.bn
theorem FuR.wr {t : St} (h : FuR t) (n : ByteArray) (d : List UInt8) : FuR (wrR t n d) := by
  unfold wrR
  split
  · exact h
  · split
    · exact h
    · split
      · exact h
      · exact h.go _ _
theorem FuR.ct {t : St} (h : FuR t) (n : ByteArray) : FuR (ctR t n) := by
  unfold ctR
  split
  · exact h
  · split
    · exact h
    · split
      · exact h
      · exact h.go _ _
theorem FuR.fl {t : St} (h : FuR t) : FuR (flS t) := by unfold flS; split <;> exact h
theorem FuR.cr (t : St) (ps : List UInt8) : FuR (crS t ps) := by show (0 : Int) ≤ 9223372036854775807; decide
theorem FuR.fu (t : St) (n : Int) : FuR (fuR t n) := by
  unfold FuR fuR
  dsimp only
  by_cases hz : 0 ≤ n ∧ n < 1099511627776
  · rw [if_pos hz]
    show (n.toNat : Int) + 1 ≤ _
    omega
  · rw [if_neg hz]
    show (0 : Int) ≤ 9223372036854775807
    decide

/-! ## In memory -/
theorem own_same {w w' : World} {base e sz n : Nat} {v : Value} {xs : List Value} (h : w.ownsRow base e sz v n xs) (hk : ∀ g, v.ownBlock = some g → w'.heap[g]? = w.heap[g]?) : w'.ownsRow base e sz v n xs := by
  refine ⟨h.1, ?_⟩
  rcases h.2 with hn | ⟨g, cap, cur, hv, hb, hg, rest⟩
  · exact .inl hn
  · exact .inr ⟨g, cap, cur, hv, hb, (hk g (by rw [hv]; rfl)).trans hg, rest⟩
theorem loose_same {w w' : World} {base n c : Nat} {A : Option Addr} {l : List Ch} (h : LooseAt w base A n c l) (hk : Kp w w') (hb : ∀ ad, A = some ad → w'.heap[ad.block]? = w.heap[ad.block]?) : LooseAt w' base A n c l := by
  obtain ⟨rs, e, ho, hd⟩ := h
  refine ⟨rs, e, own_same ho fun g hg => ?_, fun r hr => ⟨(hd r hr).1.kp hk, (hd r hr).2⟩⟩
  cases A with
  | none => cases hg
  | some ad =>
    rw [own_at ho] at hg
    obtain rfl := Option.some.inj hg
    exact hb ad rfl
def Far (A B : Option Addr) : Prop := ∀ a b, A = some a → B = some b → a.block ≠ b.block
section
variable {w w' : World} {base T T2 : Nat} {s t : St} {SA FA LA NA SA2 LA2 : Option Addr} {sn sc fn fcp ln lc nn nc sn2 sc2 ln2 lc2 : Nat}
theorem heads_ne {l1 l2 : List Value} (h : Row w T 58 l1) (h2 : Row w T2 60 l2) : T ≠ T2 := h.ne_ h2 (by decide)
theorem head_row {t0 : TypeId} {l1 : List Value} {c n : Nat} {A : Option Addr} {cs : List Ch} (h : Row w T t0 l1) (ht : t0 ≠ 64) (h2 : LooseAt w base A n c cs) {ad : Addr} (e : A = some ad) : T ≠ ad.block := by
  rintro rfl
  obtain ⟨_, _, cs, h1⟩ := h2.blk e
  unfold Row at h
  rw [h1] at h
  injection h with h
  injection h with _ e2
  exact ht e2.symm
/-- A call on the rack leaves the document's. -/
theorem Rf.past (h : Rk w base T s SA sn sc FA fn fcp LA ln lc) (h2 : Rf w base T2 t NA nn nc SA2 sn2 sc2 LA2 ln2 lc2) (hne : Far LA LA2) (hf : Fr w w' T LA) : Rf w' base T2 t NA nn nc SA2 sn2 sc2 LA2 ln2 lc2 := by
  have hk := h.kp hf
  have hb : w'.heap[T2]? = w.heap[T2]? := hf.block T2 h2.lt (heads_ne h.head h2.head).symm fun ad e => head_row h2.head (by decide) h.loose e
  refine ⟨h2.head.same hb, h2.low, h2.files.kp hk, h2.ncap, h2.sure.kp hk, h2.scap, loose_same h2.loose hk fun ad e => ?_⟩
  exact hf.block _ (h2.loose.blk e).2.1 (head_row h.head (by decide) h2.loose e).symm fun a e1 => (hne a ad e1 e).symm
/-- A call on the document's rack leaves the other one. -/
theorem Rk.past (h : Rk w base T s SA sn sc FA fn fcp LA ln lc) (h2 : Rf w base T2 t NA nn nc SA2 sn2 sc2 LA2 ln2 lc2) (hne : Far LA LA2) (hf : Fr w w' T2 LA2) : Rk w' base T s SA sn sc FA fn fcp LA ln lc := by
  have hk := h2.kp hf
  have hb : w'.heap[T]? = w.heap[T]? := hf.block T h.lt (heads_ne h.head h2.head) fun ad e => head_row h.head (by decide) h2.loose e
  refine ⟨h.head.same hb, h.low, h.sure.kp hk, h.scap, h.files.kp hk, h.fcap, loose_same h.loose hk fun ad e => ?_⟩
  exact hf.block _ (h.loose.blk e).2.1 (head_row h2.head (by decide) h.loose e).symm fun a e1 => hne ad a e e1
end
/-- Both racks of the call's own behind at most k calls. -/
structure Two (w0 wr : World) (T T2 k : Nat) (s t : St) : Prop where
  bel : Below w0.heap.size w0 wr
  ok : Ok k s
  okR : Ok k t
  fu : FuOk s
  fuR : FuR t
  rk : ∃ SA sn sc FA fn fcp LA ln lc NA nn nc SA2 sn2 sc2 LA2 ln2 lc2, Rk wr w0.heap.size T s SA sn sc FA fn fcp LA ln lc ∧ Rf wr w0.heap.size T2 t NA nn nc SA2 sn2 sc2 LA2 ln2 lc2 ∧ Far LA LA2
section
variable {w0 wr w' : World} {T T2 k m : Nat} {s s' t t' : St}
theorem Two.below (h : Two w0 wr T T2 k s t) (hb : Below wr.heap.size wr w') : Two w0 w' T T2 k s t := by
  obtain ⟨h1, h2, h3, h4, h5, SA, sn, sc, FA, fn, fcp, LA, ln, lc, NA, nn, nc, SA2, sn2, sc2, LA2, ln2, lc2, h6, h7, h8⟩ := h
  exact ⟨h1.trans (hb.mono h1.size), h2, h3, h4, h5, _, _, _, _, _, _, _, _, _, _, _, _, _, _, _, _, _, _, h6.below hb, h7.below hb, h8⟩
theorem Two.rkb (h : Two w0 wr T T2 k s t) : RkB w0 wr T k s := by
  obtain ⟨h1, h2, h3, h4, h5, SA, sn, sc, FA, fn, fcp, LA, ln, lc, NA, nn, nc, SA2, sn2, sc2, LA2, ln2, lc2, h6, h7, h8⟩ := h
  exact ⟨h1, h2, h4, _, _, _, _, _, _, _, _, _, h6⟩
/-- A call on the rack. -/
theorem Two.prog {SA FA LA NA SA2 LA2 : Option Addr} {sn sc fn fcp ln lc nn nc sn2 sc2 ln2 lc2 : Nat} {e0 e : Ending} (h1 : Below w0.heap.size w0 wr) (h6 : Rk wr w0.heap.size T s SA sn sc FA fn fcp LA ln lc) (h7 : Rf wr w0.heap.size T2 t NA nn nc SA2 sn2 sc2 LA2 ln2 lc2) (h8 : Far LA LA2)
    (ok : Ok m s') (okR : Ok m t) (fu : FuOk s') (fuR : FuR t) (p : RkPost wr w0.heap.size T LA s' e0 e w') : e = e0 ∧ Two w0 w' T T2 m s' t := by
  obtain ⟨he, LA', ⟨SA', sn', sc', FA', fn', fcp', ln', lc', hr⟩, hf, hl⟩ := p
  refine ⟨he, h1.trans (hf.old h1.size h6.low h6.lb), ok, okR, fu, fuR, _, _, _, _, _, _, _, _, _, _, _, _, _, _, _, _, _, _, hr, Rf.past h6 h7 h8 hf, fun a b ea eb => ?_⟩
  rcases hl a ea with h | ⟨a2, h, h9⟩
  · have := (h7.loose.blk eb).2.1
    omega
  · rw [h9]; exact h8 a2 b h eb
/-- A call on the document's rack. -/
theorem Two.ref {SA FA LA NA SA2 LA2 : Option Addr} {sn sc fn fcp ln lc nn nc sn2 sc2 ln2 lc2 : Nat} {e0 e : Ending} (h1 : Below w0.heap.size w0 wr) (h6 : Rk wr w0.heap.size T s SA sn sc FA fn fcp LA ln lc) (h7 : Rf wr w0.heap.size T2 t NA nn nc SA2 sn2 sc2 LA2 ln2 lc2) (h8 : Far LA LA2)
    (ok : Ok m s) (okR : Ok m t') (fu : FuOk s) (fuR : FuR t') (p : RfPost wr w0.heap.size T2 LA2 t' e0 e w') : e = e0 ∧ Two w0 w' T T2 m s t' := by
  obtain ⟨he, LA', ⟨SA', sn', sc', FA', fn', fcp', ln', lc', hr⟩, hf, hl⟩ := p
  refine ⟨he, h1.trans (hf.old h1.size h7.low h7.lb), ok, okR, fu, fuR, _, _, _, _, _, _, _, _, _, _, _, _, _, _, _, _, _, _, Rk.past h6 h7 h8 hf, hr, fun a b ea eb => ?_⟩
  rcases hl b eb with h | ⟨b2, h, h9⟩
  · have := (h6.loose.blk ea).2.1
    omega
  · rw [h9]; exact h8 a b2 ea h
end
end Go.Proofs.Ytefgcckdlebfaaa.RfT
