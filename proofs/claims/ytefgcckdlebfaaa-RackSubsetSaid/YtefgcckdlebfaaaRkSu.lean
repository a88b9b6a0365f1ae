/-
  RackSubset: of loose writes of unlike names just those that are picked stay.
-/
import Derived.Test.YtefgcckdlebfaaaRkFu
import Derived.Lib.SmallJoins
namespace Go.Proofs.Ytefgcckdlebfaaa.RkSu
open Go.RowKit Go.Proofs.Ytefgcckdlebfaaa.BxD Go.Proofs.Ytefgcckdlebfaaa.BxKit Go.Proofs.Ytefgcckdlebfaaa.RkO Go.Proofs.Ytefgcckdlebfaaa.RkC Go.Proofs.Ytefgcckdlebfaaa.RkD Go.Proofs.Ytefgcckdlebfaaa.RkR Go.Proofs.Ytefgcckdlebfaaa.RkK Go.Proofs.Ytefgcckdlebfaaa.RkP Go.Proofs.Ytefgcckdlebfaaa.RkQ Go.Proofs.Ytefgcckdlebfaaa.RkE Go.Proofs.Ytefgcckdlebfaaa.RkS Go.Proofs.Ytefgcckdlebfaaa.RkM Go.Proofs.Ytefgcckdlebfaaa.RkN Go.Proofs.Ytefgcckdlebfaaa.RkV Go.Proofs.Ytefgcckdlebfaaa.RkW Go.Proofs.Ytefgcckdlebfaaa.RkU Go.Proofs.Ytefgcckdlebfaaa.RkT Go.Proofs.Ytefgcckdlebfaaa.RkG Go.Proofs.Ytefgcckdlebfaaa.RkAw Go.Proofs.Ytefgcckdlebfaaa.RkFu

/-! ## Blocks of texts stay -/
def KeepS (w : World) (k : Nat) : Prop := ∃ cs fr, w.heap[k]? = some (.cells cs 9 fr)
def Ks (w w' : World) : Prop := ∀ k, KeepS w k → w'.heap[k]? = w.heap[k]?
theorem Ks.below {w w' : World} (h : Below w.heap.size w w') : Ks w w' := fun k ⟨cs, fr, hk⟩ => h.block k (Array.getElem?_eq_some_iff.1 hk).1
theorem ks_of {w w' : World} {base T : Nat} {s : St} {SA FA LA : Option Addr} {sn sc fn fcp ln lc : Nat} (h : Rk w base T s SA sn sc FA fn fcp LA ln lc) (hf : Fr w w' T LA) : Ks w w' := by
  intro k hk
  obtain ⟨cs, fr, h1⟩ := hk
  refine hf.block k (Array.getElem?_eq_some_iff.1 h1).1 ?_ ?_
  · rintro rfl
    have h3 := h.head
    unfold Row at h3
    rw [h3] at h1
    injection h1 with h1
    injection h1 with _ e2
    exact absurd e2 (by decide)
  · rintro ad e rfl
    obtain ⟨_, _, cs', h3⟩ := h.loose.blk e
    rw [h3] at h1
    injection h1 with h1
    injection h1 with _ e2
    exact absurd e2 (by decide)
theorem own_ks {w w' : World} {base n : Nat} {v : Value} {xs : List Value} (h : w.ownsRow base 9 1 v n xs) (hk : Ks w w') : w'.ownsRow base 9 1 v n xs := by
  refine ⟨h.1, ?_⟩
  rcases h.2 with hn | ⟨g, cap, cur, hv, hb, hg, rest⟩
  · exact .inl hn
  · exact .inr ⟨g, cap, cur, hv, hb, (hk g ⟨_, _, hg⟩).trans hg, rest⟩
theorem WriteS {w0 w : World} {T k : Nat} {s : St} (h : RkB w0 w T k s) (h6 : k ≤ 900) {D : Option Addr} {dn dc B : Nat} (n : ByteArray) {d : List UInt8} (hD : PkKit.BytesAt w B D dn d) (hB : B ≤ w.heap.size) :
    Calls Try.prog 12 #[ptr T, .string n, .slice D dn dc] w fun e w' => e = .returned (.int .i64 (wrE s n d)) ∧ RkB w0 w' T (k + 1) (wrS s n d) ∧ Ks w w' := by
  obtain ⟨h1, h2, h3, SA, sn, sc, FA, fn, fcp, LA, ln, lc, h4⟩ := h
  refine (Write_any h4 h2 h6 hD hB h1.size h3).mono fun _ _ p => ?_
  have q := RkB.post h1 h4 (h2.wr n d) (h3.wr n d) p
  obtain ⟨_, LA', _, hf, _⟩ := p
  exact ⟨q.1, q.2, ks_of h4 hf⟩
theorem CrashS {w0 w : World} {T k : Nat} {s : St} (h : RkB w0 w T k s) (h6 : k ≤ 900) {D : Option Addr} {dn dc B : Nat} {ps : List UInt8} (hD : PkKit.BytesAt w B D dn ps) (hB : B ≤ w.heap.size) (hdn : dn ≤ 100000000) :
    Calls Try.prog 18 #[ptr T, .slice D dn dc] w fun e w' => e = .returned (.tuple #[]) ∧ RkB w0 w' T k (crS s ps) ∧ Ks w w' := by
  obtain ⟨h1, h2, h3, SA, sn, sc, FA, fn, fcp, LA, ln, lc, h4⟩ := h
  refine (crash_any h4 h2 h6 hD hB hdn).mono fun _ _ p => ?_
  have q := RkB.post h1 h4 (h2.cr ps) (FuOk.cr s ps) p
  obtain ⟨_, LA', _, hf, _⟩ := p
  exact ⟨q.1, q.2, ks_of h4 hf⟩

/-! ## What stays: pure -/
theorem cr_snoc {ps : List UInt8} : ∀ (cs : List Ch) (c : Ch) (i : Nat) (f : List F), cr ps (cs ++ [c]) i f = if picked ps (i + cs.length) then doneC (cr ps cs i f) c else cr ps cs i f
  | [], c, i, f => by simp [cr]
  | a :: r, c, i, f => by
    rw [List.cons_append]
    unfold cr
    rw [cr_snoc r c (i + 1) _, List.length_cons, show i + 1 + r.length = i + (r.length + 1) by omega]
structure SS (ps : List UInt8) (l : List ByteArray) (i : Nat) (s : St) (want : List ByteArray) : Prop where
  room : s.room = 1000000
  sure : s.sure = []
  down : s.down = false
  fuse : s.fuse = none
  few : s.loose.length = i
  flen : s.files.length ≤ i
  fz : ∀ f ∈ s.files, f.1.size ≤ 24 ∧ f.2.length ≤ 1
  cur : (cr ps s.loose 0 []).map (·.1) = want
  srt : SrtF (cr ps s.loose 0 [])
  mem : ∀ x ∈ want, x ∈ l.take i
theorem costs33 : ∀ {l : List F}, (∀ f ∈ l, f.1.size ≤ 24 ∧ f.2.length ≤ 1) → costs l ≤ l.length * 33
  | [], _ => by simp [costs]
  | f :: r, h => by
    have h1 := h f (List.mem_cons_self ..)
    have h2 := costs33 (l := r) fun g hg => h g (List.mem_cons_of_mem _ hg)
    simp only [costs, List.map_cons, List.sum_cons, List.length_cons] at h2 ⊢
    omega
theorem SS.start (ps : List UInt8) (l : List ByteArray) : SS ps l 0 (newS 1000000) [] := ⟨rfl, rfl, rfl, rfl, rfl, Nat.le_refl _, fun f hf => by simp [newS] at hf, rfl, List.Pairwise.nil, fun x hx => by simp at hx⟩
theorem SS.put {ps : List UInt8} {l : List ByteArray} {i : Nat} {s : St} {want : List ByteArray} (h : SS ps l i s want) (hi : i ≤ 30) {x : ByteArray} (hx : okN x = true) (c : UInt8) :
    wrE s x [c] = 0 ∧ wrS s x [c] = { s with files := putF x [c] s.files, loose := s.loose ++ [⟨x, false, [c]⟩], writes := s.writes + 1, fuse := none } := by
  obtain ⟨x1, x2⟩ := okN_size hx
  have hb : wrBad x [c] = false := by unfold wrBad; rw [hx]; rfl
  have hz : ∀ f ∈ putF x [c] s.files, f.1.size ≤ 24 ∧ f.2.length ≤ 1 := by
    intro f hf
    rcases mem_put hf with rfl | hf
    · exact ⟨x2, Nat.le_refl _⟩
    · exact h.fz f hf
  have hl : (putF x [c] s.files).length ≤ i + 1 := by
    rw [length_put]
    have := h.flen
    split <;> omega
  have hc := costs33 hz
  have hf : wrFull s x [c] = false := by
    unfold wrFull
    rw [h.room]
    simp; omega
  have hne : ¬ s.fuse = some 0 := by rw [h.fuse]; simp
  refine ⟨?_, ?_⟩
  · unfold wrE; rw [hb, h.down, hf]; exact if_neg hne
  · unfold wrS
    rw [if_neg (by rw [hb]; decide), if_neg (by rw [h.down]; decide), if_neg (by rw [hf]; decide)]
    unfold goS
    rw [if_neg hne, h.fuse]; rfl
theorem SS.skip {ps : List UInt8} {l : List ByteArray} {i : Nat} {s : St} {want : List ByteArray} (h : SS ps l i s want) (hi : i ≤ 30) {x : ByteArray} (hx : okN x = true) (c : UInt8) (hp : picked ps i = false) : SS ps l (i + 1) (wrS s x [c]) want := by
  have hs := (h.put hi hx c).2
  have hcr : cr ps (s.loose ++ [⟨x, false, [c]⟩]) 0 [] = cr ps s.loose 0 [] := by rw [cr_snoc, Nat.zero_add, h.few, hp]; rfl
  rw [hs]
  refine ⟨h.room, h.sure, h.down, rfl, by simp [h.few], ?_, ?_, by show (cr ps (s.loose ++ _) 0 []).map _ = _; rw [hcr]; exact h.cur, by show SrtF (cr ps (s.loose ++ _) 0 []); rw [hcr]; exact h.srt, fun y hy => List.mem_of_mem_take (i := i) (by rw [List.take_take, Nat.min_eq_left (by omega)]; exact h.mem y hy)⟩
  · show (putF x [c] s.files).length ≤ i + 1
    rw [length_put]
    have := h.flen
    split <;> omega
  · intro f hf
    rcases mem_put hf with rfl | hf
    · exact ⟨(okN_size hx).2, Nat.le_refl _⟩
    · exact h.fz f hf
theorem lo_names (k : ByteArray) {f : List F} {want : List ByteArray} (h : f.map (·.1) = want) {i : Nat} (hi : i ≤ want.length) (h1 : ∀ (j : Nat) (x : ByteArray), j < i → want[j]? = some x → cmpS x k < 0) (h2 : ∀ x, want[i]? = some x → ¬ cmpS x k < 0) : lo cmpS k f = i := by
  subst h
  rw [List.length_map] at hi
  exact lo_eq cmpS k f i hi (fun j p hj hp => h1 j p.1 hj (by rw [List.getElem?_map, hp]; rfl)) (fun p hp => h2 p.1 (by rw [List.getElem?_map, hp]; rfl))
theorem SS.take {ps : List UInt8} {l : List ByteArray} {i : Nat} {s : St} {want : List ByteArray} (h : SS ps l i s want) (hi : i ≤ 30) {x : ByteArray} (hx : okN x = true) (c : UInt8) (hl : l[i]? = some x) (hn : x ∉ l.take i) (hp : picked ps i = true)
    {k : Nat} (hk : k ≤ want.length) (h1 : ∀ (j : Nat) (y : ByteArray), j < k → want[j]? = some y → cmpS y x < 0) (h2 : ∀ y, want[k]? = some y → ¬ cmpS y x < 0) : SS ps l (i + 1) (wrS s x [c]) (want.take k ++ x :: want.drop k) := by
  have hs := (h.put hi hx c).2
  have hlo := lo_names x h.cur hk h1 h2
  have hh : hit cmpS x (cr ps s.loose 0 []) = false := by
    cases hb : hit cmpS x (cr ps s.loose 0 []) with
    | false => rfl
    | true =>
      obtain ⟨v, hv⟩ := (hit_iff ordS).1 hb
      have : x ∈ want := by
        rw [← h.cur]
        exact List.mem_map.2 ⟨(x, v), List.mem_of_getElem? hv, rfl⟩
      exact absurd (h.mem x this) hn
  have hcr : cr ps (s.loose ++ [⟨x, false, [c]⟩]) 0 [] = putF x [c] (cr ps s.loose 0 []) := by rw [cr_snoc, Nat.zero_add, h.few, hp]; rfl
  have hpm : (putF x [c] (cr ps s.loose 0 [])).map (·.1) = want.take k ++ x :: want.drop k := by
    unfold putF RkO.put
    rw [hh, if_neg (by decide)]
    unfold ins
    rw [hlo, List.map_append, List.map_cons, List.map_take, List.map_drop, h.cur]
  have hle : ∀ y ∈ l.take i, y ∈ l.take (i + 1) := fun y hy => List.mem_of_mem_take (i := i) (by rw [List.take_take, Nat.min_eq_left (by omega)]; exact hy)
  rw [hs]
  refine ⟨h.room, h.sure, h.down, rfl, by simp [h.few], ?_, ?_, by show (cr ps (s.loose ++ _) 0 []).map _ = _; rw [hcr]; exact hpm, by show SrtF (cr ps (s.loose ++ _) 0 []); rw [hcr]; exact srt_put ordS h.srt, ?_⟩
  · show (putF x [c] s.files).length ≤ i + 1
    rw [length_put]
    have := h.flen
    split <;> omega
  · intro f hf
    rcases mem_put hf with rfl | hf
    · exact ⟨(okN_size hx).2, Nat.le_refl _⟩
    · exact h.fz f hf
  · intro y hy
    rw [List.mem_append, List.mem_cons] at hy
    rcases hy with hy | rfl | hy
    · exact hle y (h.mem y (List.mem_of_mem_take hy))
    · exact List.mem_of_getElem? (i := i) (by rw [List.getElem?_take, if_pos (Nat.lt_succ_self _)]; exact hl)
    · exact hle y (h.mem y (List.mem_of_mem_drop hy))

/-! ## Slices of texts cut -/
theorem elemS : Try.prog.elem 42 = 9 := by kernel_rfl
theorem undS : Try.prog.underlying 42 = some (.slice (Try.prog.elem 42)) := by kernel_rfl
theorem run_sizeS (w : World) : (sizeOf 9).run Try.prog w = .ok 1 w := by
  have h : (Try.prog.info? 9).map (·.size) = some 1 := by kernel_rfl
  obtain ⟨i, hi, hs⟩ := Option.map_eq_some_iff.1 h
  simp [sizeOf, typeInfo, hi, hs]
theorem ss_hi (A : Option Addr) (n cp i : Nat) (hi : i ≤ cp) (w : World) : (Instr.slice 42 (.slice A n cp) none (some (.int .i64 (i : Int))) none).run Try.prog w = .ok (.slice A i cp) w := by
  rw [run_slice_h w 42 A n cp undS .i64 (i : Int) (by omega) (by omega), elemS, run_sizeS]
  simp only [Result.andThen, sliced, Int.toNat_natCast, Nat.sub_zero, Nat.zero_mul]
  congr 2
  split
  · rfl
  · cases A with
    | none => rfl
    | some a => simp [Addr.add]
theorem ss_lo {w : World} {B : Nat} {A : Option Addr} {n cp i : Nat} {l : List ByteArray} (h : StrsAt w B A n l) (hi : i ≤ n) (hn : n ≤ cp) :
    ∃ A2 n2 c2, (∀ w, (Instr.slice 42 (.slice A n cp) (some (.int .i64 (i : Int))) none none).run Try.prog w = .ok (.slice A2 n2 c2) w) ∧ n2 + i = n ∧ StrsAt w B A2 n2 (l.drop i) := by
  refine ⟨if cp = i then A else A.map (·.add (i * 1)), n - i, cp - i, fun w => ?_, by omega, RowAt.cut h hi hn⟩
  rw [run_slice_l w 42 A n cp undS .i64 (i : Int) (by omega) (by omega), elemS, run_sizeS]
  simp only [Result.andThen, sliced, Int.toNat_natCast]
theorem nw {w : World} {o : Obj} {b : Nat} (hb : b = w.heap.size) : (w.alloc o).heap[b]? = some o := by subst hb; exact heap_alloc_new w o
theorem od {w : World} {o : Obj} {b : Nat} {x : Obj} (h : w.heap[b]? = some x) : (w.alloc o).heap[b]? = some x := (Below.heap_alloc _ _ _ (Array.getElem?_eq_some_iff.1 h).1).trans h
theorem dr {w : World} {b : Nat} {x : Obj} (h : w.heap[b]? = some x) : w.drew.heap[b]? = some x := h
theorem own_go {w W : World} {base e sz n : Nat} {v : Value} {xs : List Value} (h : w.ownsRow base e sz v n xs) (hb : Below w.heap.size w W) : W.ownsRow base e sz v n xs := h.kept (RkO.grown_below hb (row := none)) (by cases hv : v.ownBlock <;> simp)
theorem emptyS {W : World} {base b : Nat} (h : W.heap[b]? = some (.cells #[] 9 (0, 0))) (hb : base ≤ b) : W.ownsRow base 9 1 (.slice (some ⟨b, 0, none⟩) 0 0) 0 [] :=
  ⟨rfl, .inr ⟨b, 0, #[], rfl, hb, h, Nat.le_refl _, Nat.zero_le _, rfl, rfl⟩⟩
theorem oneS {W : World} {b : Nat} {x : ByteArray} (h : W.heap[b]? = some (.cells #[.string x] 9 (0, 0))) : Src W (some ⟨b, 0, none⟩) 1 1 [.string x] := by
  refine ⟨rfl, fun u hu => by simp at hu; subst hu; rfl, fun _ => ⟨_, rfl, fun j u hu => ?_⟩⟩
  rw [RkR.add_new, cell_of_row W b j _ _ _ h]
  simpa using hu

set_option maxRecDepth 100000 in
set_option maxHeartbeats 8000000 in
theorem walk {w : World} {LA PA : Option Addr} {n lcp pn pc : Nat} {l : List ByteArray} {ps : List UInt8} (h1 : StrsAt w w.heap.size LA n l) (hlc : n ≤ lcp) (h2 : PkKit.BytesAt w w.heap.size PA pn ps) :
    Calls Try.prog 6 #[.slice LA n lcp, .slice PA pn pc] w fun e w' => e = .returned (.bool true) ∧ Below w.heap.size w w' := by
  have H1 := Lib.hid h1
  have H2 := Lib.hid h2
  have L1 := Lib.hid h1.len
  have L2 := Lib.hid h2.1
  have hm1 := h1.max
  by_cases hbig : 30 < n ∨ 100 < pn
  · have KA := Lib.hid (awake w)
    clear h1 h2
    by_cases hb1 : 30 < n
    · have hi : (30 : Int) < (n : Int) := by omega
      go_enter Try.func6, Try.ntmps6
      go_wp2_with (go_at_call 9; go_loud (refine KA.out.mono ?_; rintro e w1 ⟨rfl, hb⟩))
      go_ret
      exact ⟨rfl, hb⟩
    · have hi : ¬ (30 : Int) < (n : Int) := by omega
      have hi2 : (100 : Int) < (pn : Int) := by omega
      go_enter Try.func6, Try.ntmps6
      go_wp2_with (go_at_call 9; go_loud (refine KA.out.mono ?_; rintro e w1 ⟨rfl, hb⟩))
      go_ret
      exact ⟨rfl, hb⟩
  have hn30 : n ≤ 30 := by omega
  have hp100 : pn ≤ 100 := by omega
  have hi : ¬ (30 : Int) < (n : Int) := by omega
  have hi2 : ¬ (100 : Int) < (pn : Int) := by omega
  have KN := Lib.hid (newB w w (Below.refl _ _) 1000000)
  obtain ⟨T, hT⟩ : ∃ T, T = w.heap.size := ⟨_, rfl⟩
  rw [← hT] at KN
  unfold ptr at KN
  clear h1 h2 hbig hT
  go_enter Try.func6, Try.ntmps6
  go_upto_region 5 with (go_at_call 10; go_loud (refine KN.out.mono ?_; rintro e w1 ⟨rfl, g⟩; have R1 := Lib.hid g; clear g))
  clear hi hi2
  go_wp2_with fail
  go_loopw [26, 6] (fun s26 s6 wr => ∃ (i : Nat) (s : St) (WA : Option Addr) (wn wc6 : Nat) (want : List ByteArray), i ≤ n ∧ s26 = .int .i64 i ∧ s6 = .slice WA wn wc6 ∧ wn ≤ i ∧ wn ≤ wc6 ∧ Hid (RkB w wr T i s) ∧ Hid (SS ps l i s want) ∧ Hid (wr.ownsRow w.heap.size 9 1 (.slice WA wn wc6) wn (want.map Value.string))) (fun s26 _ _ => n - (intOf s26).toNat)
  case atStart => exact ⟨0, _, none, 0, 0, [], Nat.zero_le _, rfl, rfl, Nat.zero_le _, Nat.le_refl _, R1, SS.start ps l, World.ownsRow_nil _ _ _ _⟩
  case round =>
    clear R1 KN
    obtain ⟨i, s, WA, wn, wc6, want, hin, rfl, rfl, hw30, hwc, HR, HS, HO⟩ := hrel
    by_cases hlt : i < n
    · obtain ⟨la, x, rfl, hx, hcx⟩ := StrsAt.at_ H1.out HR.out.bel (Nat.le_refl _) hlt
      by_cases hsz : x.size < 1 ∨ 24 < x.size
      · have KA := Lib.hid (awake wr)
        by_cases hs1 : x.size < 1
        · have hj : (x.size : Int) < 1 := by omega
          go_wp2_with (go_at_call 9; go_loud (refine KA.out.mono ?_; rintro e w3 ⟨rfl, hb⟩))
          go_ret
          exact ⟨rfl, HR.out.bel.trans (hb.mono HR.out.bel.size)⟩
        · have hj : ¬ (x.size : Int) < 1 := by omega
          have hj2 : (24 : Int) < (x.size : Int) := by omega
          go_wp2_with (go_at_call 9; go_loud (refine KA.out.mono ?_; rintro e w3 ⟨rfl, hb⟩))
          go_ret
          exact ⟨rfl, HR.out.bel.trans (hb.mono HR.out.bel.size)⟩
      have hok : okN x = true := decide_eq_true (by omega)
      have hj : ¬ (x.size : Int) < 1 := by omega
      have hj2 : ¬ (24 : Int) < (x.size : Int) := by omega
      obtain ⟨e1, _⟩ := HS.out.put (by omega) hok (byt i)
      have hbi := byt_eq i (by omega)
      have KW := Lib.hid (WriteS (dc := 1) (HR.out.alloc (.cells #[.int .u8 (byt i).toNat] 5)) (by omega) x (one_by wr (byt i) (0, 0) rfl) (by simp))
      rw [e1] at KW
      have HX := Lib.hid hx
      have HOK := Lib.hid hok
      have HOa := Lib.hid (own_go HO.out (below_alloc wr (.cells #[.int .u8 (byt i).toNat] 5)))
      have hsl := ss_hi (some la) n lcp i (by omega)
      unfold ptr at KW
      clear e1 hx hok hsz
      go_upto_region 10 with (go_at_call 12; go_loud (refine KW.out.mono ?_; rintro e w3 ⟨rfl, g, gk⟩; have R3 := Lib.hid g; have O3 := Lib.hid (own_ks HOa.out gk); clear g gk))
      clear hj hj2 hbi hcx KW HOa
      go_wp2_with fail
      clear hsl
      go_loop [63] (fun s63 => ∃ k : Nat, k ≤ i ∧ s63 = .int .i64 k ∧ Hid (∀ (j : Nat) (y : ByteArray), j < k → l[j]? = some y → y ≠ x)) (fun s63 => i - (intOf s63).toNat)
      case atStart => exact ⟨0, Nat.zero_le _, rfl, fun j y h => absurd h (Nat.not_lt_zero j)⟩
      case round =>
        obtain ⟨k, hk, rfl, HN⟩ := hrel
        by_cases hlk : k < i
        · obtain ⟨la', y, hla, hy, hcy⟩ := StrsAt.at_ H1.out R3.out.bel (Nat.le_refl _) (show k < n by omega)
          obtain rfl := Option.some.inj hla
          have hki : (k : Int) < (i : Int) := by omega
          by_cases hxy : y = x
          · subst hxy
            have hbb : (y.toList == y.toList) = true := by simp
            have KA := Lib.hid (awake w3)
            go_wp2_with (go_at_call 9; go_loud (refine KA.out.mono ?_; rintro e w4 ⟨rfl, hb⟩))
            go_ret
            exact ⟨rfl, R3.out.bel.trans (hb.mono R3.out.bel.size)⟩
          · have hbb : (x.toList == y.toList) = false := by
              cases h : (x.toList == y.toList) with
              | false => rfl
              | true => exact absurd (ba_ext (by simpa using h)).symm hxy
            have HN1 : Hid (∀ (j : Nat) (y : ByteArray), j < k + 1 → l[j]? = some y → y ≠ x) := by
              intro j z hj hz
              rcases Nat.lt_or_ge j k with h | h
              · exact HN.out j z h hz
              · obtain rfl : j = k := by omega
                rw [hy] at hz
                rw [← Option.some.inj hz]; exact hxy
            clear hy hxy
            go_wp2_with fail
            go_round
            case rel => exact ⟨k + 1, by omega, by go_num, HN1⟩
            case measure => simp [intOf]; omega
        · obtain rfl : k = i := by omega
          have HNI := Lib.hid (show x ∉ l.take k by
            intro hm
            obtain ⟨j, hj⟩ := List.mem_iff_getElem?.1 hm
            rw [List.getElem?_take] at hj
            split at hj
            · rename_i h; exact HN.out j x h hj rfl
            · cases hj)
          by_cases hqp : k < pn
          · obtain ⟨pa, pb, rfl, he1, he2⟩ := (H2.out.below R3.out.bel (Nat.le_refl _)).at_ hqp
            have hbit := bit0 pb
            have hpk : picked ps k = (pb.toNat % 2 == 1) := by unfold picked; rw [he1]
            have hqi : (k : Int) < (pn : Int) := by omega
            cases hb1 : (pb.toNat % 2 == 1) with
            | false =>
              rw [hb1] at hbit hpk
              clear hb1 he1
              have HS2 := Lib.hid (HS.out.skip (by omega) HOK.out (byt k) hpk)
              clear hpk
              go_wp2_with fail
              go_roundw
              case rel => exact ⟨k + 1, _, WA, wn, wc6, want, by omega, by go_num, rfl, by omega, hwc, R3, HS2, O3⟩
              case measure => simp [intOf]; omega
            | true =>
              rw [hb1] at hbit hpk
              have HPK := Lib.hid hpk
              clear hb1 he1 hpk
              have HWS := Lib.hid (show StrsAt w3 w3.heap.size WA wn want from strsAt_own O3.out (by omega) (fun y hy => by
                have hm := HS.out.mem y hy
                obtain ⟨j, hj⟩ := List.mem_iff_getElem?.1 (List.mem_of_mem_take hm)
                have hjl := (List.getElem?_eq_some_iff.1 hj).1
                rw [L1.out] at hjl
                obtain ⟨_, z, _, _, hz, hcz⟩ := H1.out.get hjl
                rw [hj] at hz
                rw [Option.some.inj hz]; exact hcz.2))
              go_wp2_with fail
              go_loop [11] (fun s11 => ∃ q : Nat, q ≤ wn ∧ s11 = .int .i64 q ∧ Hid (∀ (j : Nat) (y : ByteArray), j < q → want[j]? = some y → cmpS y x < 0)) (fun s11 => wn - (intOf s11).toNat)
              case atStart => exact ⟨0, Nat.zero_le _, rfl, fun j y h => absurd h (Nat.not_lt_zero j)⟩
              case round =>
                obtain ⟨q, hq, rfl, HLO⟩ := hrel
                by_cases hstop : ∃ y, want[q]? = some y ∧ cmpS y x < 0
                · obtain ⟨y, hy, hyx⟩ := hstop
                  have hqw : q < wn := by have := (List.getElem?_eq_some_iff.1 hy).1; rw [HWS.out.len] at this; exact this
                  obtain ⟨wa, y', rfl, hy', hcy⟩ := StrsAt.at_ HWS.out (Below.refl _ _) (Nat.le_refl _) hqw
                  rw [hy] at hy'
                  obtain rfl := Option.some.inj hy'
                  have hbl : Op.bytesLess y.toList x.toList = true := cmpS_neg.1 hyx
                  have hqi2 : (q : Int) < (wn : Int) := by omega
                  have HLO1 : Hid (∀ (j : Nat) (z : ByteArray), j < q + 1 → want[j]? = some z → cmpS z x < 0) := by
                    intro j z hj hz
                    rcases Nat.lt_or_ge j q with h | h
                    · exact HLO.out j z h hz
                    · obtain rfl : j = q := by omega
                      rw [hy] at hz
                      rw [← Option.some.inj hz]; exact hyx
                  clear hy hyx hy'
                  go_wp2_with fail
                  go_round
                  case rel => exact ⟨q + 1, by omega, by go_num, HLO1⟩
                  case measure => simp [intOf]; omega
                · have HST := Lib.hid (show ∀ y, want[q]? = some y → ¬ cmpS y x < 0 from fun y hy hyx => hstop ⟨y, hy, hyx⟩)
                  clear hstop
                  have HWL := Lib.hid HWS.out.len
                  have HS2 := Lib.hid (HS.out.take (by omega) HOK.out (byt k) HX.out HNI.out HPK.out (k := q) (by rw [HWL.out]; exact hq) HLO.out HST.out)
                  have ht1 := ss_hi WA wn wc6 q (by omega)
                  obtain ⟨A2, n2, c2, ht2, hn2, hdr⟩ := ss_lo HWS.out hq hwc
                  have HDR := Lib.hid hdr
                  have HTK := Lib.hid (RowAt.take HWS.out hq)
                  have hn2b : q + n2 ≤ k := by omega
                  clear hdr hn2
                  have hq0 : (0 : Int) ≤ (q : Int) := by omega
                  have HB3 := Lib.hid R3.out.bel
                  by_cases hqw : q < wn
                  · obtain ⟨wa, y, rfl, hy, hcy⟩ := StrsAt.at_ HWS.out (Below.refl _ _) (Nat.le_refl _) hqw
                    have hbl : Op.bytesLess y.toList x.toList = false := by
                      cases h : Op.bytesLess y.toList x.toList with
                      | false => rfl
                      | true => exact absurd (cmpS_neg.2 h) (HST.out y hy)
                    have hqi2 : (q : Int) < (wn : Int) := by omega
                    clear hy
                    go_upto_region 20 with fail
                    clear hcy hbl
                    go_region_held3 (fun _ => True) (first | trivial | go_keep) (first
                      | (show (if Region.wanted ⟨some 102, _, _, _, _, _⟩ _ = true then _ else _)
                         go_loud (
                         refine step_rows elS (base := w3.heap.size) (c := wc6) rfl (.tmp 98) (.tmp 101) rfl rfl rfl (emptyS (by (repeat (with_reducible first | exact nw (by first | rfl | (simp; done) | (simp; omega)) | refine dr ?_ | refine od ?_)); first | done | fail) (by first | exact Nat.le_refl _ | omega | (simp; done) | (simp; omega))) (strs_src (StrsAt.below HTK.out (by (repeat (with_reducible first | exact Below.refl _ _ | refine Below.drew ?_ | refine Below.alloc ?_ (by first | exact Nat.le_refl _ | omega | (simp; done) | (simp; omega)) _)); first | done | fail) (Nat.le_refl _))) (by unfold maxLen; omega) (by omega) (by first | exact Nat.le_refl _ | omega | (simp; done) | (simp; omega)) ?_
                         intro v1 w6 hown1 hg1 _
                         have X6 := Lib.hid (Below.grown (show Below w3.heap.size w3 _ from (by (repeat (with_reducible first | exact Below.refl _ _ | refine Below.drew ?_ | refine Below.alloc ?_ (by first | exact Nat.le_refl _ | omega | (simp; done) | (simp; omega)) _)); first | done | fail)) hg1 (by first | exact Nat.le_refl _ | omega | (simp; done) | (simp; omega)) (fun k e => by have e2 := Option.some.inj e; dsimp only at e2; omega))
                         rw [Nat.zero_add, List.nil_append] at hown1
                         have HO1 := Lib.hid hown1
                         have hs6 := X6.out.size
                         have hs6' := hg1.size
                         try simp at hs6'
                         first | (have hgE : World.grownBy _ w6 (some w3.heap.size) := hg1) | (have hgE : World.grownBy _ w6 (some (w3.heap.size + 1)) := hg1)
                         first | (have HM6 := Lib.hid (show w6.heap[w3.heap.size]? = some (.cells #[.string x] 9 (0, 0)) from (hgE.block w3.heap.size (by first | exact Nat.le_refl _ | omega | (simp; done) | (simp; omega)) (fun e => by have := Option.some.inj e; omega)).trans (by (repeat (with_reducible first | exact nw (by first | rfl | (simp; done) | (simp; omega)) | refine dr ?_ | refine od ?_)); first | done | fail))) | (have HM6 := Lib.hid (show w6.heap[(w3.heap.size + 1)]? = some (.cells #[.string x] 9 (0, 0)) from (hgE.block (w3.heap.size + 1) (by first | exact Nat.le_refl _ | omega | (simp; done) | (simp; omega)) (fun e => by have := Option.some.inj e; omega)).trans (by (repeat (with_reducible first | exact nw (by first | rfl | (simp; done) | (simp; omega)) | refine dr ?_ | refine od ?_)); first | done | fail))) | skip
                         clear hown1 hg1 hgE
                         dsimp only))
                      | (show (if Region.wanted ⟨some 105, _, _, _, _, _⟩ _ = true then _ else _)
                         go_loud (
                         refine step_rows elS (base := w3.heap.size) (c := 1) rfl (.tmp 102) (.tmp 104) rfl rfl rfl (own_go HO1.out (show Below w6.heap.size w6 _ from (by (repeat (with_reducible first | exact Below.refl _ _ | refine Below.drew ?_ | refine Below.alloc ?_ (by first | exact Nat.le_refl _ | omega | (simp; done) | (simp; omega)) _)); first | done | fail))) (oneS (by (repeat (with_reducible first | exact nw (by first | rfl | (simp; done) | (simp; omega)) | exact HM6.out | refine dr ?_ | refine od ?_)); first | done | fail)) (by unfold maxLen; omega) (by omega) (by first | exact Nat.le_refl _ | omega | (simp; done) | (simp; omega)) ?_
                         intro v2 w7 hown2 hg2 _
                         have X7 := Lib.hid (Below.grown (show Below w3.heap.size w3 _ from (by (repeat (with_reducible first | exact Below.refl _ _ | exact X6.out | refine Below.drew ?_ | refine Below.alloc ?_ (by first | exact Nat.le_refl _ | omega | (simp; done) | (simp; omega)) _)); first | done | fail)) hg2 (by first | exact Nat.le_refl _ | omega | (simp; done) | (simp; omega)) (fun k e => (HO1.out.lt k e).1))
                         have HO2 := Lib.hid hown2
                         clear hown2 hg2
                         dsimp only))
                      | (show (if Region.wanted ⟨some 109, _, _, _, _, _⟩ _ = true then _ else _)
                         go_loud (
                         refine step_rows elS (base := w3.heap.size) (c := c2) rfl (.tmp 105) (.tmp 108) rfl rfl rfl HO2.out (strs_src (StrsAt.below HDR.out X7.out (Nat.le_refl _))) (by unfold maxLen; omega) (by omega) (X7.out.size) ?_
                         intro v3 w8 hown3 hg3 _
                         have X8 := Lib.hid (Below.grown X7.out hg3 X7.out.size (fun k e => (HO2.out.lt k e).1))
                         obtain ⟨A3, c3, rfl, hc3⟩ := RkR.own_slice hown3
                         have HO3 := Lib.hid hown3
                         clear hown3 hg3
                         dsimp only)))
                    all_goals
                      have hbb := HB3.out.size
                      have O8 := Lib.hid (_root_.Go.Joins.ownsRow_le (base' := w.heap.size) HO3.out hbb)
                      have R8 := Lib.hid (R3.out.below X8.out)
                      go_wp2_with fail
                      go_roundw
                      case rel => exact ⟨k + 1, _, A3, q + 1 + n2, c3, want.take q ++ x :: want.drop q, by omega, by go_num, rfl, by omega, hc3, R8, HS2, by have h := O8.out; rw [List.map_append, List.map_cons]; rw [List.append_assoc] at h; exact h⟩
                      case measure => simp [intOf]; omega
                  · have hqi2 : ¬ (q : Int) < (wn : Int) := by omega
                    go_upto_region 20 with fail
                    go_region_held3 (fun _ => True) (first | trivial | go_keep) (first
                      | (show (if Region.wanted ⟨some 102, _, _, _, _, _⟩ _ = true then _ else _)
                         go_loud (
                         refine step_rows elS (base := w3.heap.size) (c := wc6) rfl (.tmp 98) (.tmp 101) rfl rfl rfl (emptyS (by (repeat (with_reducible first | exact nw (by first | rfl | (simp; done) | (simp; omega)) | refine dr ?_ | refine od ?_)); first | done | fail) (by first | exact Nat.le_refl _ | omega | (simp; done) | (simp; omega))) (strs_src (StrsAt.below HTK.out (by (repeat (with_reducible first | exact Below.refl _ _ | refine Below.drew ?_ | refine Below.alloc ?_ (by first | exact Nat.le_refl _ | omega | (simp; done) | (simp; omega)) _)); first | done | fail) (Nat.le_refl _))) (by unfold maxLen; omega) (by omega) (by first | exact Nat.le_refl _ | omega | (simp; done) | (simp; omega)) ?_
                         intro v1 w6 hown1 hg1 _
                         have X6 := Lib.hid (Below.grown (show Below w3.heap.size w3 _ from (by (repeat (with_reducible first | exact Below.refl _ _ | refine Below.drew ?_ | refine Below.alloc ?_ (by first | exact Nat.le_refl _ | omega | (simp; done) | (simp; omega)) _)); first | done | fail)) hg1 (by first | exact Nat.le_refl _ | omega | (simp; done) | (simp; omega)) (fun k e => by have e2 := Option.some.inj e; dsimp only at e2; omega))
                         rw [Nat.zero_add, List.nil_append] at hown1
                         have HO1 := Lib.hid hown1
                         have hs6 := X6.out.size
                         have hs6' := hg1.size
                         try simp at hs6'
                         first | (have hgE : World.grownBy _ w6 (some w3.heap.size) := hg1) | (have hgE : World.grownBy _ w6 (some (w3.heap.size + 1)) := hg1)
                         first | (have HM6 := Lib.hid (show w6.heap[w3.heap.size]? = some (.cells #[.string x] 9 (0, 0)) from (hgE.block w3.heap.size (by first | exact Nat.le_refl _ | omega | (simp; done) | (simp; omega)) (fun e => by have := Option.some.inj e; omega)).trans (by (repeat (with_reducible first | exact nw (by first | rfl | (simp; done) | (simp; omega)) | refine dr ?_ | refine od ?_)); first | done | fail))) | (have HM6 := Lib.hid (show w6.heap[(w3.heap.size + 1)]? = some (.cells #[.string x] 9 (0, 0)) from (hgE.block (w3.heap.size + 1) (by first | exact Nat.le_refl _ | omega | (simp; done) | (simp; omega)) (fun e => by have := Option.some.inj e; omega)).trans (by (repeat (with_reducible first | exact nw (by first | rfl | (simp; done) | (simp; omega)) | refine dr ?_ | refine od ?_)); first | done | fail))) | skip
                         clear hown1 hg1 hgE
                         dsimp only))
                      | (show (if Region.wanted ⟨some 105, _, _, _, _, _⟩ _ = true then _ else _)
                         go_loud (
                         refine step_rows elS (base := w3.heap.size) (c := 1) rfl (.tmp 102) (.tmp 104) rfl rfl rfl (own_go HO1.out (show Below w6.heap.size w6 _ from (by (repeat (with_reducible first | exact Below.refl _ _ | refine Below.drew ?_ | refine Below.alloc ?_ (by first | exact Nat.le_refl _ | omega | (simp; done) | (simp; omega)) _)); first | done | fail))) (oneS (by (repeat (with_reducible first | exact nw (by first | rfl | (simp; done) | (simp; omega)) | exact HM6.out | refine dr ?_ | refine od ?_)); first | done | fail)) (by unfold maxLen; omega) (by omega) (by first | exact Nat.le_refl _ | omega | (simp; done) | (simp; omega)) ?_
                         intro v2 w7 hown2 hg2 _
                         have X7 := Lib.hid (Below.grown (show Below w3.heap.size w3 _ from (by (repeat (with_reducible first | exact Below.refl _ _ | exact X6.out | refine Below.drew ?_ | refine Below.alloc ?_ (by first | exact Nat.le_refl _ | omega | (simp; done) | (simp; omega)) _)); first | done | fail)) hg2 (by first | exact Nat.le_refl _ | omega | (simp; done) | (simp; omega)) (fun k e => (HO1.out.lt k e).1))
                         have HO2 := Lib.hid hown2
                         clear hown2 hg2
                         dsimp only))
                      | (show (if Region.wanted ⟨some 109, _, _, _, _, _⟩ _ = true then _ else _)
                         go_loud (
                         refine step_rows elS (base := w3.heap.size) (c := c2) rfl (.tmp 105) (.tmp 108) rfl rfl rfl HO2.out (strs_src (StrsAt.below HDR.out X7.out (Nat.le_refl _))) (by unfold maxLen; omega) (by omega) (X7.out.size) ?_
                         intro v3 w8 hown3 hg3 _
                         have X8 := Lib.hid (Below.grown X7.out hg3 X7.out.size (fun k e => (HO2.out.lt k e).1))
                         obtain ⟨A3, c3, rfl, hc3⟩ := RkR.own_slice hown3
                         have HO3 := Lib.hid hown3
                         clear hown3 hg3
                         dsimp only)))
                    all_goals
                      have hbb := HB3.out.size
                      have O8 := Lib.hid (_root_.Go.Joins.ownsRow_le (base' := w.heap.size) HO3.out hbb)
                      have R8 := Lib.hid (R3.out.below X8.out)
                      go_wp2_with fail
                      go_roundw
                      case rel => exact ⟨k + 1, _, A3, q + 1 + n2, c3, want.take q ++ x :: want.drop q, by omega, by go_num, rfl, by omega, hc3, R8, HS2, by have h := O8.out; rw [List.map_append, List.map_cons]; rw [List.append_assoc] at h; exact h⟩
                      case measure => simp [intOf]; omega
          · have hpk : picked ps k = false := by unfold picked; rw [List.getElem?_eq_none (by rw [L2.out]; omega)]
            have hqi : ¬ (k : Int) < (pn : Int) := by omega
            have HS2 := Lib.hid (HS.out.skip (by omega) HOK.out (byt k) hpk)
            clear hpk
            go_wp2_with fail
            go_roundw
            case rel => exact ⟨k + 1, _, WA, wn, wc6, want, by omega, by go_num, rfl, by omega, hwc, R3, HS2, O3⟩
            case measure => simp [intOf]; omega
    · obtain rfl : i = n := by omega
      have KL := Lib.hid (LooseB HR.out)
      rw [HS.out.few] at KL
      have KS := Lib.hid (SureB HR.out (by omega))
      unfold SuPost at KS
      rw [HS.out.sure] at KS
      rw [show ([] : List F).length = 0 from rfl] at KS
      unfold ptr at KL KS
      go_upto_region 24 with (first
        | (go_at_call 28; go_loud (refine KL.out.mono ?_; rintro e w3 ⟨rfl, rfl⟩))
        | (go_at_call 31; go_loud (refine KS.out.mono ?_; rintro e w4 ⟨A4, c4, rfl, _, _, hb⟩; have R4 := Lib.hid (HR.out.below hb); have O4 := Lib.hid (own_go HO.out hb); clear hb)))
      have KC := Lib.hid (CrashS (dc := pc) R4.out (by omega) (H2.out.below R4.out.bel (Nat.le_refl _)) R4.out.bel.size (by omega))
      have hf : (crS s ps).files.map (·.1) = want := by show (cr ps s.loose 0 s.sure).map _ = _; rw [HS.out.sure]; exact HS.out.cur
      obtain ⟨S2, hS2⟩ : ∃ S2, S2 = crS s ps := ⟨_, rfl⟩
      rw [← hS2] at KC hf
      have HFI := Lib.hid hf
      unfold ptr at KC
      clear hf hS2 KL KS
      go_upto_region 25 with (go_at_call 18; go_loud (refine KC.out.mono ?_; rintro e w5 ⟨rfl, g, gk⟩; have R5 := Lib.hid g; have O5 := Lib.hid (own_ks O4.out gk); clear g gk))
      have KM := Lib.hid (NamesB R5.out (by omega))
      rw [HFI.out] at KM
      unfold ptr NmPost at KM
      have hwl : want.length = wn := by have := O5.out.1; simpa using this
      rw [hwl] at KM
      clear hwl KC
      go_upto_region 26 with (go_at_call 25; go_loud (refine KM.out.mono ?_; rintro e w6 ⟨A6, c6, rfl, hs6, hb6⟩; have N6 := Lib.hid hs6; have R6 := Lib.hid (R5.out.below hb6); have O6 := Lib.hid (own_go O5.out hb6); clear hs6 hb6))
      have HWS := Lib.hid (show StrsAt w6 w6.heap.size WA wn want from strsAt_own O6.out (by omega) (fun y hy => by
        have hm := HS.out.mem y hy
        obtain ⟨j, hj⟩ := List.mem_iff_getElem?.1 (List.mem_of_mem_take hm)
        have hjl := (List.getElem?_eq_some_iff.1 hj).1
        rw [L1.out] at hjl
        obtain ⟨_, z, _, _, hz, hcz⟩ := H1.out.get hjl
        rw [hj] at hz
        rw [Option.some.inj hz]; exact hcz.2))
      clear KM
      go_wp2_with fail
      go_loopw [134] (fun s134 wr => ∃ q : Nat, q ≤ wn ∧ s134 = .int .i64 q ∧ Hid (Below w6.heap.size w6 wr)) (fun s134 _ => wn - (intOf s134).toNat)
      case atStart => exact ⟨0, Nat.zero_le _, rfl, Below.refl _ _⟩
      case round =>
        obtain ⟨q, hq, rfl, HB⟩ := hrel
        by_cases hqw : q < wn
        · obtain ⟨ga, y, rfl, hy, hcy⟩ := StrsAt.at_ N6.out HB.out (Nat.le_refl _) hqw
          obtain ⟨wa, y', rfl, hy', hcy'⟩ := StrsAt.at_ HWS.out HB.out (Nat.le_refl _) hqw
          rw [hy] at hy'
          obtain rfl := Option.some.inj hy'
          have hyy : (y.toList == y.toList) = true := by simp
          have hqi2 : (q : Int) < (wn : Int) := by omega
          have hq0 : (0 : Int) ≤ (q : Int) := by omega
          clear hy hy'
          go_upto_region 31 with fail
          go_quiet (fail)
          go_wp2_with fail
          go_roundw
          case rel => exact ⟨q + 1, by omega, by go_num, Lib.hid (HB.out.trans (BxKit.below_drewN (Below.refl _ _) _))⟩
          case measure => simp [intOf]; omega
        · obtain rfl : q = wn := by omega
          have KA := Lib.hid (awake wr)
          go_wp2_with (go_at_call 9; go_loud (refine KA.out.mono ?_; rintro e w8 ⟨rfl, hb⟩; have RZ := Lib.hid ((R6.out.below HB.out).below hb); clear hb))
          go_ret
          exact ⟨rfl, RZ.out.bel⟩
end Go.Proofs.Ytefgcckdlebfaaa.RkSu
