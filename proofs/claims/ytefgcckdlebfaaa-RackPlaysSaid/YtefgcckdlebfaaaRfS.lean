/-
  The document's rack in memory; its fuse.
-/
import Derived.Test.YtefgcckdlebfaaaRfP
import Derived.Test.YtefgcckdlebfaaaRkU
namespace Go.Proofs.Ytefgcckdlebfaaa.RfS
open Go.RowKit Go.Proofs.Ytefgcckdlebfaaa.BxD Go.Proofs.Ytefgcckdlebfaaa.BxKit Go.Proofs.Ytefgcckdlebfaaa.RkO Go.Proofs.Ytefgcckdlebfaaa.RkC Go.Proofs.Ytefgcckdlebfaaa.RkD Go.Proofs.Ytefgcckdlebfaaa.RkR Go.Proofs.Ytefgcckdlebfaaa.RkK Go.Proofs.Ytefgcckdlebfaaa.RkP Go.Proofs.Ytefgcckdlebfaaa.RkQ Go.Proofs.Ytefgcckdlebfaaa.RkE Go.Proofs.Ytefgcckdlebfaaa.RkS Go.Proofs.Ytefgcckdlebfaaa.RkV Go.Proofs.Ytefgcckdlebfaaa.RkU Go.Proofs.Ytefgcckdlebfaaa.RfA Go.Proofs.Ytefgcckdlebfaaa.RfP

def leftV : Option Nat → Int
  | none => 0
  | some n => (n : Int) + 1
/-- A write passes the fuse. -/
def bnS (s : St) : St := match s.fuse with
  | none => s
  | some 0 => { s with fuse := none, down := true }
  | some (n + 1) => { s with fuse := some n }
def bnB (s : St) : Bool := decide (s.fuse ≠ some 0)
def goR (s : St) (c : Ch) (nx : List F) : St := if s.fuse = some 0 then bnS s else { bnS s with files := nx, loose := s.loose ++ [c], writes := s.writes + 1 }
def wrR (s : St) (n : ByteArray) (d : List UInt8) : St := if wrBad n d then s else if s.down then s else if wrFull s n d then s else goR s ⟨n, false, d⟩ (putF n d s.files)
def ctR (s : St) (n : ByteArray) : St := if !okN n then s else if s.down then s else if !hitF n s.files then s else goR s ⟨n, true, []⟩ (cutF n s.files)
def fuR (s : St) (n : Int) : St := { s with fuse := if 0 ≤ n ∧ n < 1099511627776 then some n.toNat else none }
theorem bn_same (s : St) : (bnS s).room = s.room ∧ (bnS s).sure = s.sure ∧ (bnS s).files = s.files ∧ (bnS s).loose = s.loose ∧ (bnS s).writes = s.writes := by
  unfold bnS
  split <;> exact ⟨rfl, rfl, rfl, rfl, rfl⟩
/-- The document's rack at T is as s says. -/
structure Rf (w : World) (base T : Nat) (s : St) (NA : Option Addr) (nn nc : Nat) (SA : Option Addr) (sn sc : Nat) (LA : Option Addr) (ln lc : Nat) : Prop where
  head : Row w T 60 [.int .i64 s.room, .slice NA nn nc, .slice SA sn sc, .slice LA ln lc, .int .i64 (leftV s.fuse), .bool s.down, .int .i64 s.writes]
  low : base ≤ T
  files : FilesT w NA nn s.files
  ncap : nn ≤ nc
  sure : FilesT w SA sn s.sure
  scap : sn ≤ sc
  loose : LooseAt w base LA ln lc s.loose
def ptr (T : Nat) : Value := .pointer (some ⟨T, 0, none⟩)
section
variable {w w' : World} {base T : Nat} {s : St} {SA NA LA : Option Addr} {sn sc nn nc ln lc : Nat}
theorem Rf.cells (h : Rf w base T s NA nn nc SA sn sc LA ln lc) {wr : World} (hb : wr.heap[T]? = w.heap[T]?) :
    wr.cell? { block := T, off := 0 } = some (.int .i64 s.room) ∧ wr.cell? { block := T, off := 1 } = some (.slice NA nn nc) ∧ wr.cell? { block := T, off := 2 } = some (.slice SA sn sc) ∧ wr.cell? { block := T, off := 3 } = some (.slice LA ln lc) ∧
      wr.cell? { block := T, off := 4 } = some (.int .i64 (leftV s.fuse)) ∧ wr.cell? { block := T, off := 5 } = some (.bool s.down) ∧ wr.cell? { block := T, off := 6 } = some (.int .i64 s.writes) ∧
      ∀ i, wr.frozen? { block := T, off := i } = false := by
  have hr := h.head.same hb
  exact ⟨hr.cell 0, hr.cell 1, hr.cell 2, hr.cell 3, hr.cell 4, hr.cell 5, hr.cell 6, fun i => hr.frozen i⟩
theorem Rf.lt (h : Rf w base T s NA nn nc SA sn sc LA ln lc) : T < w.heap.size := h.head.lt
theorem Rf.below (h : Rf w base T s NA nn nc SA sn sc LA ln lc) (hb : Below w.heap.size w w') : Rf w' base T s NA nn nc SA sn sc LA ln lc :=
  have hk := Kp.below hb (Nat.le_refl _)
  ⟨h.head.below hb h.lt, h.low, h.files.kp hk, h.ncap, h.sure.kp hk, h.scap, h.loose.below hb⟩
theorem Rf.lb (h : Rf w base T s NA nn nc SA sn sc LA ln lc) : ∀ ad, LA = some ad → base ≤ ad.block := fun _ e => (h.loose.blk e).1
theorem Rf.kp (h : Rf w base T s NA nn nc SA sn sc LA ln lc) (hf : Fr w w' T LA) : Kp w w' := by
  intro k hk
  refine hf.block k hk.lt ?_ ?_
  · rintro rfl
    obtain ⟨cs, t, fr, h1, h2⟩ := hk
    have h3 := h.head
    unfold Row at h3
    rw [h3] at h1
    injection h1 with h1
    injection h1 with _ e2
    subst e2
    rcases h2 with h2 | h2 <;> exact absurd h2 (by decide)
  · rintro ad e rfl
    obtain ⟨_, _, cs', h3⟩ := h.loose.blk e
    obtain ⟨cs, t, fr, h1, h2⟩ := hk
    rw [h3] at h1
    injection h1 with h1
    injection h1 with _ e2
    subst e2
    rcases h2 with h2 | h2 <;> exact absurd h2 (by decide)
theorem Rf.TL (h : Rf w base T s NA nn nc SA sn sc LA ln lc) {ad : Addr} (e : LA = some ad) : T ≠ ad.block := by
  rintro rfl
  obtain ⟨_, _, cs, h1⟩ := h.loose.blk e
  have h3 := h.head
  unfold Row at h3
  rw [h3] at h1
  injection h1 with h1
  injection h1 with _ e2
  exact absurd e2 (by decide)
end
def RfX (w : World) (base T : Nat) (s : St) (LA : Option Addr) : Prop := ∃ NA nn nc SA sn sc ln lc, Rf w base T s NA nn nc SA sn sc LA ln lc
def RfPost (w : World) (base T : Nat) (LA : Option Addr) (s' : St) (e0 : Ending) (e : Ending) (w' : World) : Prop := e = e0 ∧ ∃ LA', RfX w' base T s' LA' ∧ Fr w w' T LA ∧ LNew w LA LA'
theorem RfPost.same {w w' : World} {base T : Nat} {s : St} {SA NA LA : Option Addr} {sn sc nn nc ln lc : Nat} (h : Rf w base T s NA nn nc SA sn sc LA ln lc) (hb : Below w.heap.size w w') (e : Ending) : RfPost w base T LA s e e w' :=
  ⟨rfl, LA, ⟨_, _, _, _, _, _, _, _, h.below hb⟩, Fr.of hb, LNew.refl w LA⟩
theorem fr_trans {a b c : World} {T : Nat} {LA : Option Addr} (h : Fr a b T LA) (k : Fr b c T LA) : Fr a c T LA :=
  ⟨k.os.trans h.os, k.tape.trans h.tape, k.output.trans h.output, Nat.le_trans h.size k.size, fun i hi h1 h2 => (k.block i (Nat.lt_of_lt_of_le hi h.size) h1 h2).trans (h.block i hi h1 h2)⟩
theorem RfPost.lift {w w3 w' : World} {base T : Nat} {LA : Option Addr} {s' : St} {e0 e : Ending} (hf0 : Fr w w3 T LA) (h : RfPost w3 base T LA s' e0 e w') : RfPost w base T LA s' e0 e w' := by
  obtain ⟨he, LA', hr, hf, hl⟩ := h
  refine ⟨he, LA', hr, fr_trans hf0 hf, fun ad e => ?_⟩
  rcases hl ad e with h1 | h1
  · exact .inl (Nat.le_trans hf0.size h1)
  · exact .inr h1
theorem RfX.drewN {w : World} {base T : Nat} {s : St} {LA : Option Addr} (h : RfX w base T s LA) (n : Nat) : RfX (w.drewN n) base T s LA := by
  obtain ⟨SA, sn, sc, FA, fn, fcp, ln, lc, h⟩ := h
  exact ⟨_, _, _, _, _, _, _, _, h.below (BxKit.below_drewN (Below.refl _ _) n)⟩
theorem RfPost.drewN {w w' : World} {base T : Nat} {LA : Option Addr} {s' : St} {e0 e : Ending} (h : RfPost w base T LA s' e0 e w') {n : Nat} : RfPost w base T LA s' e0 e (w'.drewN n) := by
  obtain ⟨he, LA', hr, hf, hl⟩ := h
  exact ⟨he, LA', RfX.drewN hr n, hf.below (BxKit.below_drewN (Below.refl _ _) n), hl⟩
theorem Rf.turn {w w' : World} {base T : Nat} {s s' : St} {SA NA LA SA' NA' LA' : Option Addr} {sn sc nn nc ln lc sn' sc' nn' nc' ln' lc' : Nat} (h : Rf w base T s NA nn nc SA sn sc LA ln lc) (hf : Fr w w' T LA)
    (head : Row w' T 60 [.int .i64 s'.room, .slice NA' nn' nc', .slice SA' sn' sc', .slice LA' ln' lc', .int .i64 (leftV s'.fuse), .bool s'.down, .int .i64 s'.writes])
    (files : FilesT w NA' nn' s'.files) (fc : nn' ≤ nc') (sure : FilesT w SA' sn' s'.sure) (sc : sn' ≤ sc') (loose : LooseAt w' base LA' ln' lc' s'.loose) : Rf w' base T s' NA' nn' nc' SA' sn' sc' LA' ln' lc' :=
  have hk := h.kp hf
  ⟨head, h.low, files.kp hk, fc, sure.kp hk, sc, loose⟩
theorem own_no {w : World} {base n T : Nat} {v : Value} {xs l : List Value} (h : w.ownsRow base 64 3 v n xs) (hT : Row w T 60 l) : v.ownBlock ≠ some T := by
  intro hg
  rcases h.2 with ⟨rfl, _⟩ | ⟨g', cap, cur, rfl, hb, hgg, _⟩
  · cases hg
  · obtain rfl : g' = T := Option.some.inj hg
    unfold Row at hT
    rw [hgg] at hT
    injection hT with hT
    injection hT with _ e
    exact absurd e (by decide)
/-- The head stored over: the row of loose writes stays. -/
theorem loose_set {w : World} {base T ln lc : Nat} {l : List Value} {LA : Option Addr} {cs : List Ch} (hL : LooseAt w base LA ln lc cs) (hR : Row w T 60 l) (i : Nat) (v : Value) : LooseAt (w.setCell ⟨T, i, none⟩ v) base LA ln lc cs := by
  refine hL.keep (Kp.setCell hR (by decide) (by decide) i v) (setCell_grown w ⟨T, i, none⟩ v) fun ad e e2 => ?_
  obtain ⟨_, _, cs, q⟩ := hL.blk e
  have e3 : T = ad.block := Option.some.inj e2
  rw [← e3] at q
  unfold Row at hR
  rw [q] at hR
  injection hR with hR
  injection hR with _ e4
  exact absurd e4 (by decide)
section
variable {w : World} {base T : Nat} {s : St} {SA NA LA : Option Addr} {sn sc nn nc ln lc : Nat}
/-- The rest of a write that goes through: the files stored, the write appended, counted. -/
theorem Rf.wrote {w6 : World} (h : Rf w base T s NA nn nc SA sn sc LA ln lc) {NA2 : Option Addr} {nn2 nc2 : Nat} {rs : List RC} {r : RC} {v : Value} {nx : List F} {o : Obj}
    (hl : rs.map cOf = s.loose) (hown : w.ownsRow base 64 3 (.slice LA ln lc) ln (cc rs)) (hd : ∀ q ∈ rs, ByT w q.r.A q.r.d.length q.r.d ∧ q.r.d.length ≤ q.r.c) (hr : ByT w r.r.A r.r.d.length r.r.d ∧ r.r.d.length ≤ r.r.c)
    (hx : FilesT w NA2 nn2 nx) (hc : nn2 ≤ nc2)
    (h6 : w6.ownsRow base 64 3 v (ln + 1) (cc rs ++ cell3 r)) (g6 : ((w.setCell ⟨T, 1, none⟩ (.slice NA2 nn2 nc2)).alloc o).grownBy w6 (Value.slice LA ln lc).ownBlock) (hv : v.ownBlock = (Value.slice LA ln lc).ownBlock ∨ v.ownBlock = some ((w.setCell ⟨T, 1, none⟩ (.slice NA2 nn2 nc2)).alloc o).heap.size) (z : Int) (hz : z = ((s.writes + 1 : Nat) : Int)) :
    RfPost w base T LA { s with files := nx, loose := s.loose ++ [cOf r], writes := s.writes + 1 } (.returned (.int .i64 0)) (.returned (.int .i64 0)) ((w6.setCell { block := T, off := 3 } v).setCell { block := T, off := 6 } (.int .i64 z)) := by
  subst hz
  obtain ⟨W1, hW1⟩ : ∃ W1, W1 = w.setCell ⟨T, 1, none⟩ (.slice NA2 nn2 nc2) := ⟨_, rfl⟩
  have hR1 := h.head.stored 1 (.slice NA2 nn2 nc2)
  have hF1 : Fr w (w.setCell ⟨T, 1, none⟩ (.slice NA2 nn2 nc2)) T LA := (Fr.of (Below.refl _ _)).set 1 _
  have hO1 := hown.kept (setCell_grown w ⟨T, 1, none⟩ (.slice NA2 nn2 nc2)) (.inr (own_no hown h.head))
  rw [← hW1] at g6 hv hR1 hF1 hO1
  have hO1' := hO1.alloc o
  have hT1 : T < (W1.alloc o).heap.size := by have := hR1.lt; simp; omega
  have hb6 : w6.heap[T]? = (W1.alloc o).heap[T]? := g6.block T hT1 (fun e => own_no hO1' (hR1.alloc o) e.symm)
  have hR6 := (hR1.alloc o).same hb6
  have hF6 : Fr w w6 T LA := (hF1.alloc o).grown g6 fun k e hk => by
    cases LA with
    | none => cases e
    | some ad =>
      have e2 : some ad.block = some k := (own_at hown).symm.trans e
      exact .inr ⟨_, rfl, (Option.some.inj e2).symm⟩
  have hku : Ku w w6 := ((h.kp (hF1.alloc o))).ku.trans (Ku.grown g6 fun g e => by obtain ⟨cs, t, fr, q1, q2, q3⟩ := own_ty3 hO1' g e; exact ⟨cs, t, fr, q1, q3⟩)
  obtain ⟨A', c', rfl, hL6⟩ := LooseAt.more hl hd hr h6 hku
  have hF8 : Fr w ((w6.setCell { block := T, off := 3 } (.slice A' (ln + 1) c')).setCell { block := T, off := 6 } (.int .i64 ((s.writes + 1 : Nat) : Int))) T LA := (hF6.set 3 _).set 6 _
  refine ⟨rfl, A', ⟨NA2, nn2, nc2, SA, sn, sc, ln + 1, c', h.turn hF8 ?_ hx hc h.sure h.scap ?_⟩, hF8, fun ad e => ?_⟩
  · exact (hR6.stored 3 (.slice A' (ln + 1) c')).stored 6 (.int .i64 ((s.writes + 1 : Nat) : Int))
  · exact loose_set (loose_set hL6 hR6 3 _) (hR6.stored 3 _) 6 _
  · subst e
    rw [own_at h6] at hv
    rcases hv with hv | hv
    · right
      cases LA with
      | none => cases hv
      | some ad2 =>
        rw [own_at hown] at hv
        exact ⟨_, rfl, Option.some.inj hv⟩
    · left
      have := Option.some.inj hv
      have hs := hF1.size
      rw [this]; simp; omega
/-- What the fuse tells, and what it leaves. -/
def BnPost (w : World) (base T : Nat) (s : St) (NA : Option Addr) (nn nc : Nat) (SA : Option Addr) (sn sc : Nat) (LA : Option Addr) (ln lc : Nat) (e : Ending) (w' : World) : Prop :=
  e = .returned (.bool (bnB s)) ∧ Rf w' base T (bnS s) NA nn nc SA sn sc LA ln lc ∧ Fr w w' T LA
set_option maxHeartbeats 1000000 in
theorem burns_any (h : Rf w base T s NA nn nc SA sn sc LA ln lc) (hm : leftV s.fuse ≤ 9223372036854775807) :
    Calls Try.prog 41 #[ptr T] w (BnPost w base T s NA nn nc SA sn sc LA ln lc) := by
  cases hf : s.fuse with
  | none =>
    have hS : bnS s = s := by unfold bnS; rw [hf]
    have HP := Lib.hid (show BnPost w base T s NA nn nc SA sn sc LA ln lc (.returned (.bool true)) w from ⟨by unfold bnB; rw [hf]; rfl, by rw [hS]; exact h, Fr.of (Below.refl _ _)⟩)
    obtain ⟨c0, c1, c2, c3, c4, c5, c6, cf⟩ := h.cells rfl
    rw [hf, show leftV none = 0 from rfl] at c4
    clear h cf hm hS hf
    unfold ptr
    go_enter Try.func41, Try.ntmps41
    go_wp2
    go_ret
    exact HP.out
  | some m =>
    cases m with
    | zero =>
      have hS : bnS s = { s with fuse := none, down := true } := by unfold bnS; rw [hf]
      have hFr : Fr w ((w.setCell ⟨T, 4, none⟩ (.int .i64 0)).setCell ⟨T, 5, none⟩ (.bool true)) T LA := ((Fr.of (Below.refl _ _)).set 4 _).set 5 _
      have HP := Lib.hid (show BnPost w base T s NA nn nc SA sn sc LA ln lc (.returned (.bool false)) ((w.setCell ⟨T, 4, none⟩ (.int .i64 0)).setCell ⟨T, 5, none⟩ (.bool true)) from
        ⟨by unfold bnB; rw [hf]; rfl, by
          rw [hS]
          exact h.turn hFr ((h.head.stored 4 _).stored 5 _) h.files h.ncap h.sure h.scap (loose_set (loose_set h.loose h.head 4 _) (h.head.stored 4 _) 5 _), hFr⟩)
      obtain ⟨c0, c1, c2, c3, c4, c5, c6, cf⟩ := h.cells rfl
      rw [hf, show leftV (some 0) = 1 from rfl] at c4
      have f4 := cf 4
      have f5 := cf 5
      clear h cf hm hS hf hFr
      unfold ptr
      go_enter Try.func41, Try.ntmps41
      go_wp2
      go_ret
      exact HP.out
    | succ m =>
      have hS : bnS s = { s with fuse := some m } := by unfold bnS; rw [hf]
      have hFr : Fr w (w.setCell ⟨T, 4, none⟩ (.int .i64 ((m : Int) + 1))) T LA := (Fr.of (Below.refl _ _)).set 4 _
      have HP := Lib.hid (show BnPost w base T s NA nn nc SA sn sc LA ln lc (.returned (.bool true)) (w.setCell ⟨T, 4, none⟩ (.int .i64 ((m : Int) + 1))) from
        ⟨by unfold bnB; rw [hf]; rfl, by
          rw [hS]
          exact h.turn hFr (h.head.stored 4 _) h.files h.ncap h.sure h.scap (loose_set h.loose h.head 4 _), hFr⟩)
      obtain ⟨c0, c1, c2, c3, c4, c5, c6, cf⟩ := h.cells rfl
      rw [hf, show leftV (some (m + 1)) = ((m : Int) + 1) + 1 by show ((m + 1 : Nat) : Int) + 1 = _; omega] at c4
      rw [hf] at hm
      have hm2 : (m : Int) + 1 + 1 ≤ 9223372036854775807 := by have h2 : ((m + 1 : Nat) : Int) + 1 ≤ 9223372036854775807 := hm; omega
      have f4 := cf 4
      have hz : (((m : Int) + 1) + 1 == 0) = false := by rw [beq_eq_false_iff_ne]; omega
      have hw : IntKind.i64.wrap ((m : Int) + 1 + 1 - 1) = (m : Int) + 1 := by rw [IntWalk.i64_in _ (by omega)]; omega
      have hw2 : wrap64 ((m : Int) + 1 + 1 - 1) = (m : Int) + 1 := by unfold wrap64; omega
      have hgt : decide ((0 : Int) < (m : Int) + 1) = true := decide_eq_true (by omega)
      clear h cf hm hS hf hFr
      unfold ptr
      go_enter Try.func41, Try.ntmps41
      go_wp2
      go_ret
      exact HP.out
end
end Go.Proofs.Ytefgcckdlebfaaa.RfS
