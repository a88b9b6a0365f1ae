/-
  The greatest names and costs while changes are done.
-/
import Derived.Test.YtolkghdeppoanaaSfH
import Derived.Test.YtolkghdeppoanaaSfE
set_option linter.unusedVariables false
set_option linter.unusedSimpArgs false
namespace Go.Proofs.Ytolkghdeppoanaa.SfI
open Go.RowKit Go.Maps Go.Proofs.Ytolkghdeppoanaa.BxD Go.Proofs.Ytolkghdeppoanaa.BxKit Go.Proofs.Ytolkghdeppoanaa.RkO Go.Proofs.Ytolkghdeppoanaa.RkP Go.Proofs.Ytolkghdeppoanaa.RkC Go.Proofs.Ytolkghdeppoanaa.RkD Go.Proofs.Ytolkghdeppoanaa.RkR Go.Proofs.Ytolkghdeppoanaa.RkK Go.Proofs.Ytolkghdeppoanaa.RkM Go.Proofs.Ytolkghdeppoanaa.RkN Go.Proofs.Ytolkghdeppoanaa.SfC Go.Proofs.Ytolkghdeppoanaa.SfD Go.Proofs.Ytolkghdeppoanaa.SfE Go.Proofs.Ytolkghdeppoanaa.SfK Go.Proofs.Ytolkghdeppoanaa.SfG Go.Proofs.Ytolkghdeppoanaa.SfH

theorem lo_idx {l : List F} {j : Nat} {f : F} (hs : SrtF l) (hj : l[j]? = some f) : lo cmpS f.1 l = j := by
  have hlt := (List.getElem?_eq_some_iff.1 hj).1
  refine lo_eq cmpS f.1 l j (by omega) (fun i p hi hp => ?_) fun p hp => ?_
  · obtain ⟨h1, e1⟩ := List.getElem?_eq_some_iff.1 hp
    obtain ⟨h2, e2⟩ := List.getElem?_eq_some_iff.1 hj
    have := (List.pairwise_iff_getElem.1 hs) i j h1 h2 hi
    rw [e1, e2] at this
    exact this
  · rw [hj] at hp
    obtain rfl := Option.some.inj hp
    rw [ordS.refl]
    decide
theorem rd_idx {s : St} {j : Nat} {n : ByteArray} {d : List UInt8} (hd : s.down = false) (hs : SrtF s.files) (hj : s.files[j]? = some (n, d)) : rdF s n = some d := by
  unfold rdF
  rw [if_neg (by rw [hd]; decide), lo_idx hs hj, hj]
  simp
theorem gr1_snoc {l : List F} {q : Nat} {f : F} (h : l[q]? = some f) : gr1 (l.take (q + 1)) [] = mxu f.1 (cst f.1 f.2) (gr1 (l.take q) []) := by
  obtain ⟨hl, rfl⟩ := List.getElem?_eq_some_iff.1 h
  unfold gr1
  rw [List.take_succ_eq_append_getElem hl, List.foldl_append]
  rfl
theorem gr2_snoc {l : List Ch} {q : Nat} {c : Ch} (h : l[q]? = some c) (m : Gr) : gr2 (l.take (q + 1)) m = if c.cut then gr2 (l.take q) m else mxu c.name (cst c.name c.data) (gr2 (l.take q) m) := by
  obtain ⟨hl, rfl⟩ := List.getElem?_eq_some_iff.1 h
  unfold gr2
  rw [List.take_succ_eq_append_getElem hl, List.foldl_append]
  rfl
/-- In the midst of it: the map, the cell that holds it. -/
structure Gs (w wr : World) (P B m : Nat) (G : Gr) : Prop where
  bel : Below w.heap.size w wr
  mg : MG wr B m G
  cl : Row wr P 103 [.map (some B)]
  hB : w.heap.size ≤ B
  hP : w.heap.size ≤ P
  ne : P ≠ B
  bd : Bd G
  len : G.length ≤ m
section
variable {w wr w2 : World} {P B m : Nat} {G : Gr}
theorem Gs.go (h : Gs w wr P B m G) (hb : Below wr.heap.size wr w2) : Gs w w2 P B m G :=
  ⟨h.bel.trans (hb.mono h.bel.size), h.mg.go hb, h.cl.below hb h.cl.lt, h.hB, h.hP, h.ne, h.bd, h.len⟩
theorem Gs.put (h : Gs w wr P B m G) {n : ByteArray} {c : Nat} (hc : c ≤ 3000000) (hm : MG w2 B (m + 1) (mxu n c G)) (hg : wr.grownBy w2 (some B)) : Gs w w2 P B (m + 1) (mxu n c G) :=
  ⟨h.bel.grown hg h.bel.size (fun k e => by obtain rfl := Option.some.inj e; exact h.hB), hm, h.cl.same (hg.block P h.cl.lt (fun e => h.ne (Option.some.inj e))), h.hB, h.hP, h.ne, h.bd.mxu hc, by have := mxu_len n c G; have := h.len; omega⟩
theorem Gs.cell (h : Gs w wr P B m G) : wr.cell? { block := P, off := 0 } = some (.map (some B)) := h.cl.cell 0
end
theorem own_ne_map {w : World} {base e sz n B m : Nat} {v : Value} {xs : List Value} {G : Gr} (h : w.ownsRow base e sz v n xs) (hm : MG w B m G) : v.ownBlock ≠ some B := by
  intro hv
  obtain ⟨D, es, ⟨es', clock, hb, _⟩, _⟩ := hm
  rcases h.2 with ⟨rfl, _⟩ | ⟨g1, cap, cur, rfl, _, hg, _⟩
  · simp [Value.ownBlock] at hv
  · obtain rfl : g1 = B := by simpa [Value.ownBlock] using hv
    rw [hb] at hg
    cases hg
theorem own_go {w w' : World} {base e sz n : Nat} {v : Value} {xs : List Value} (h : w.ownsRow base e sz v n xs) (hb : Below w.heap.size w w') : w'.ownsRow base e sz v n xs :=
  h.kept (RkO.grown_below hb (row := none)) (by cases v.ownBlock <;> simp)
theorem step_mg {es : List (Lit × DataW Unit)} {G : Gr} (hp : es.Perm (G.map en)) (hn : Nd G) {x : ByteArray} {c : Int} (hat : ∀ zd, (DataW.map es).atKey (kl x) zd = .lit (.int .i64 c)) : ∃ p ∈ G, p.1 = x ∧ (p.2 : Int) = c := by
  by_cases h : x ∈ G.map (·.1)
  · obtain ⟨p, hp', rfl⟩ := List.mem_map.1 h
    have h1 := hat (.lit (.int .i64 0))
    rw [at_mem hp hn hp'] at h1
    injection h1 with h1
    injection h1 with _ h1
    exact ⟨p, hp', rfl, h1⟩
  · have h1 := hat (.lit (.bool true))
    rw [at_no hp h] at h1
    injection h1 with h1
    cases h1
/-- A step of the range over the map. -/
theorem wpList_next_mg {w : World} {ops : Array Oper} {rest : List Oper} {o : Oper} {a : Act} {Q : Exit → Act → World → Prop} (hg : o.guard = none) (it : Operand) (hop : o.op = Op.next it false) (B r m : Nat) (G : Gr) (es : List (Lit × DataW Unit)) (left : Lit → Bool) (cnt : Nat) (hp : es.Perm (G.map en)) (hn : Nd G)
    (hit : a.eval it = .pointer (some ⟨r, 0, none⟩)) (h : w.ranges Try.prog 9 (plainElem Try.prog 3) B r m (DataW.map es) left cnt)
    (hDone : lsum G left = 0 → wpList Try.prog ops Q rest (a.put o.dst (.tuple #[.bool false])) w)
    (hMore : ∀ (x : ByteArray) (c : Nat) (w' : World) (cnt' : Nat) (left' : Lit → Bool), lsum G left = c + lsum G left' → w'.ranges Try.prog 9 (plainElem Try.prog 3) B r m (DataW.map es) left' cnt' → cnt' < cnt →
      w.grownBy w' (some r) → w'.heap.size = w.heap.size → (Instr.entry (.pointer (some ⟨r, 0, none⟩))).run Try.prog w' = .ok (.tuple #[.string x, .int .i64 (c : Nat)]) w' → wpList Try.prog ops Q rest (a.put o.dst (.tuple #[.bool true, .string x, .int .i64 (c : Nat)])) w') :
    wpList Try.prog ops Q (o :: rest) a w :=
  wpList_next_ranges w hg it hop 9 law (plainElem Try.prog 3) Value.string (Value.int .i64) (fun key kl hk => by obtain ⟨x, hx, _⟩ := WideMaps.string_of_keyOf Try.underlying9 hk; exact ⟨x, hx⟩) (fun v y hv => by obtain ⟨c, rfl, _⟩ := plainElem_int_inv Try.underlying3 hv; exact ⟨c, rfl⟩)
    B r m (DataW.map es) left cnt hit h (fun _ hl => hDone (lsum_none hl)) (fun x c kl' y w' cnt' hkey hlk hv hat hrg hlt hgr hsz hen => by
      obtain ⟨x', ex, rfl, _⟩ := WideMaps.string_of_keyOf Try.underlying9 hkey
      cases ex
      obtain ⟨c', ec, rfl, _⟩ := plainElem_int_inv Try.underlying3 hv
      cases ec
      obtain ⟨p, hpm, rfl, rfl⟩ := step_mg hp hn (x := x) (c := c) hat
      exact hMore p.1 p.2 w' cnt' _ (lsum_step hn hpm hlk) hrg hlt hgr hsz hen)
section
variable {base T lo hi k : Nat} {w : World} {s : St}
set_option maxHeartbeats 8000000 in
set_option maxRecDepth 100000 in
theorem greatest_any (h : Rx base T lo hi k w s) (hd : s.down = false) (h6 : k ≤ 900) {n cp bn bc : Nat} {A Bd' : Option Addr} {l : List Ch} {b : List UInt8} (hb : b.length = bn) (hbn : bn ≤ 1000000) (hL : ChsP w base lo hi A n l) (hn : n ≤ 1000) (hz : szC l) :
    Calls Try.prog 44 #[ptr T, .slice Bd' bn bc, .slice A n cp] w fun e w' => e = .returned (.tuple #[.int .i64 ((grt s b l).length : Nat), .int .i64 (sum2 (grt s b l) : Nat)]) ∧ Below w.heap.size w w' := by
  have R0 := Lib.hid h
  have HL := Lib.hid hL
  have HLN := Lib.hid hL.1
  have HZ := Lib.hid hz
  have hfl : s.files.length ≤ 900 := by have := h.ok.files.len; omega
  have HS := Lib.hid (And.intro hd h.ok.files.srt)
  have HSZ := Lib.hid h.ok.files.sz
  have HBN := Lib.hid hb
  clear h hL hz hd hb
  unfold ptr
  have hmm := @run_makeMap Try.prog
  have G0 := Lib.hid (show Gs w ((w.alloc (.map #[] 0)).alloc (.cells #[.map (some w.heap.size)] 103)) (w.heap.size + 1) w.heap.size 0 [] from
    ⟨((Below.refl _ _).alloc (Nat.le_refl _) _).alloc (by simp) _, (MG.made w).go (below_alloc _ _), by have := heap_alloc_new (w.alloc (.map #[] 0)) (.cells #[.map (some w.heap.size)] 103); unfold Row; simpa using this, Nat.le_refl _, by omega, by omega, fun p hp => by simp at hp, Nat.le_refl _⟩)
  go_enter Try.func44, Try.ntmps44
  go_upto_region 3 with fail
  obtain ⟨P, hPe⟩ : ∃ P, P = w.heap.size + 1 := ⟨_, rfl⟩
  obtain ⟨B, hBe⟩ : ∃ B, B = w.heap.size := ⟨_, rfl⟩
  rw [← hPe, ← hBe] at G0 ⊢
  clear hPe hBe hmm
  generalize (World.alloc (World.alloc w _) _) = w0 at G0 ⊢
  have hbs : w.heap.size ≤ w0.heap.size := G0.out.bel.size
  have KN := Lib.hid (namesX (R0.out.go G0.out.bel) (by omega))
  unfold NmPost ptr at KN
  have hnl : (s.files.map (·.1)).length = s.files.length := List.length_map _
  rw [hnl] at KN
  obtain ⟨fn, hfn⟩ : ∃ fn, fn = s.files.length := ⟨_, rfl⟩
  rw [← hfn] at KN hfl
  have HFN := Lib.hid hfn
  clear hnl hfn
  go_wp2_with (go_at_call 51; go_loud (
     refine KN.out.mono ?_
     rintro e w1 ⟨A1, c1, rfl, h7, h8⟩
     have G1 := Lib.hid (G0.out.go h8)
     have O1 := Lib.hid h7
     clear h7 h8))
  clear KN
  go_loopw [23] (fun s23 wr => ∃ q : Nat, q ≤ fn ∧ s23 = .int .i64 q ∧ Hid (Gs w wr P B q (gr1 (s.files.take q) [])) ∧ Hid (wr.ownsRow w0.heap.size 9 1 (.slice A1 fn c1) fn ((s.files.map (·.1)).map Value.string))) (fun s23 _ => fn - (intOf s23).toNat)
  case atStart => exact ⟨0, Nat.zero_le _, rfl, G1, O1⟩
  case round =>
    obtain ⟨q, hq, rfl, HG, HO⟩ := hrel
    by_cases hlt : q < fn
    · obtain ⟨g, hg⟩ : ∃ g, A1 = some ⟨g, 0, none⟩ := by
        rcases HO.out.2 with ⟨hv, h0⟩ | ⟨g, cap, cur, hv, _⟩
        · omega
        · injection hv with hv; exact ⟨g, hv⟩
      subst hg
      obtain ⟨f, hf⟩ : ∃ f, s.files[q]? = some f := ⟨_, List.getElem?_eq_getElem (by rw [← HFN.out]; exact hlt)⟩
      obtain ⟨nm, d⟩ := f
      have HF := Lib.hid hf
      have hcl : wr.cell? ((⟨g, 0, none⟩ : Addr).add q) = some (.string nm) := HO.out.cells (g := g) rfl q _ (by rw [List.getElem?_map, List.getElem?_map, hf]; rfl)
      rw [add_new] at hcl
      have hsz := HSZ.out _ (List.mem_of_getElem? hf)
      have hs1 : nm.size ≤ 24 := hsz.1
      have hs2 : d.length ≤ 200000 := hsz.2
      have KR := Lib.hid (readX (R0.out.go HG.out.bel) (by omega) nm)
      rw [rd_idx HS.out.1 HS.out.2 hf] at KR
      have HSN := Lib.hid (gr1_snoc hf)
      unfold RdPost ptr at KR
      clear hf hsz
      go_upto_region 7 with (go_at_call 39; go_loud (
         refine KR.out.mono ?_
         rintro e w2 ⟨A2, m2, c2, rfl, hby, _, hb2⟩
         have G2 := Lib.hid (HG.out.go hb2)
         have O2 := Lib.hid (own_go HO.out hb2)
         have HM2 := Lib.hid (show d.length = m2 from hby.1)
         clear hby hb2 hcl))
      obtain rfl := HM2.out
      have KC := Lib.hid (count_any (dc := c2) (D := A2) (n := d.length) G2.out.cell G2.out.mg G2.out.bd (by omega) (nm := nm) (by omega) (by omega))
      obtain ⟨m, hm⟩ : ∃ m, m = d.length := ⟨_, rfl⟩
      rw [← hm] at KC hs2 ⊢
      have HM := Lib.hid hm
      clear hm KR
      go_wp2_with (go_at_call 69; go_loud (
         refine KC.out.mono ?_
         rintro e w3 ⟨rfl, hm3, hg3⟩
         have G3 := Lib.hid (G2.out.put (by omega) hm3 hg3)
         have O3 := Lib.hid (O2.out.kept hg3 (.inr (own_ne_map O2.out G2.out.mg)))
         clear hm3 hg3))
      go_roundw
      case measure => simp [intOf]; omega
      case rel =>
        refine ⟨q + 1, by omega, by go_num, ?_, O3⟩
        show Gs w w3 P B (q + 1) (gr1 (s.files.take (q + 1)) [])
        rw [HSN.out]
        unfold cst
        rw [← HM.out]
        exact G3.out
    · obtain rfl : fn = q := by omega
      have g1 := HG.out
      rw [List.take_of_length_le (by rw [← HFN.out]; exact Nat.le_refl _)] at g1
      have G2 := Lib.hid g1
      clear g1 HG HO G1 O1
      have KC := Lib.hid (count_any (dc := bc) (D := Bd') (n := bn) G2.out.cell G2.out.mg G2.out.bd (by omega) (nm := nR) (by decide) hbn)
      unfold nR at KC
      go_upto_region 10 with (go_at_call 69; go_loud (
         refine KC.out.mono ?_
         rintro e w3 ⟨rfl, hm3, hg3⟩
         have G3 := Lib.hid (G2.out.put (n := nR) (c := cst nR b) (by unfold cst; rw [HBN.out]; show 5 + bn + 8 ≤ 3000000; omega) (by unfold cst; rw [HBN.out]; exact hm3) hg3)
         clear hm3 hg3))
      clear KC G2
      have hbL : base ≤ w.heap.size ∧ hi ≤ w.heap.size := ⟨R0.out.bs, R0.out.hs⟩
      go_wp2_with fail
      go_loopw [43] (fun s43 wr => ∃ (q m : Nat), q ≤ n ∧ m ≤ fn + 1 + q ∧ s43 = .int .i64 q ∧ Hid (Gs w wr P B m (gr2 (l.take q) (mxu nR (cst nR b) (gr1 s.files []))))) (fun s43 _ => n - (intOf s43).toNat)
      case atStart => exact ⟨0, fn + 1, Nat.zero_le _, Nat.le_refl _, rfl, G3⟩
      case round =>
        clear G3
        obtain ⟨q, m, hq, hm, rfl, HG⟩ := hrel
        by_cases hlt : q < n
        · obtain ⟨ad, x, bb, K, kd, kc, rfl, hg, d0, d1, d2, hle, hby, _⟩ := HL.out.sp (Kb.below HG.out.bel hbL.1 hbL.2) (j := q) hlt
          have hsz := HZ.out _ (List.mem_of_getElem? hg)
          have hs1 : x.size ≤ 1000000 := hsz.1
          have hs2 : kd.length ≤ 1000000 := hsz.2
          have HSN := Lib.hid (gr2_snoc hg (mxu nR (cst nR b) (gr1 s.files [])))
          have G4 := Lib.hid (HG.out.go (below_alloc wr (.cells #[.string x, .bool bb, .slice K kd.length kc] 42)))
          have KC := Lib.hid (count_any (dc := kc) (D := K) (n := kd.length) G4.out.cell G4.out.mg G4.out.bd (by omega) (nm := x) (by omega) (by omega))
          obtain ⟨z, hz⟩ : ∃ z, z = kd.length := ⟨_, rfl⟩
          rw [← hz] at d2 KC G4 hs2
          have HZL := Lib.hid hz
          clear hg hsz hle hby hz
          cases bb with
          | true =>
            go_wp2_with fail
            go_roundw
            case measure => simp [intOf]; omega
            case rel => exact ⟨q + 1, m, by omega, by omega, by go_num, by rw [HSN.out]; exact G4⟩
          | false =>
            go_wp2_with (go_at_call 69; go_loud (
               refine KC.out.mono ?_
               rintro e w5 ⟨rfl, hm5, hg5⟩
               have G5 := Lib.hid (G4.out.put (by omega) hm5 hg5)
               clear hm5 hg5))
            go_roundw
            case measure => simp [intOf]; omega
            case rel =>
              refine ⟨q + 1, m + 1, by omega, by omega, by go_num, ?_⟩
              rw [HSN.out]
              show Gs w w5 P B (m + 1) (mxu x (cst x kd) (gr2 (l.take q) (mxu nR (cst nR b) (gr1 s.files []))))
              unfold cst
              rw [← HZL.out]
              exact G5.out
        · obtain rfl : n = q := by omega
          have g1 := HG.out
          rw [List.take_of_length_le (by rw [HLN.out]; exact Nat.le_refl _)] at g1
          have hgr : grt s b l = gr2 l (mxu nR (cst nR b) (gr1 s.files [])) := rfl
          rw [← hgr] at g1
          obtain ⟨G, hG⟩ : ∃ G, G = grt s b l := ⟨_, rfl⟩
          rw [← hG] at g1
          have hsum := sum_bd g1.bd
          have hlen := g1.len
          have HGE := Lib.hid hG
          have G6 := Lib.hid g1
          obtain ⟨D, es, hown, hDe, hp, hnd⟩ := g1.mg
          rw [hDe] at hown
          have HP := Lib.hid hp
          have HN := Lib.hid hnd
          have HEN := Lib.hid (g1.mg.len)
          have hcell := g1.cell
          clear g1 hgr hG HG hp hnd hDe
          go_wp2_with (first
            | (at_range; refine wpList_range_own _ rfl _ 103 rfl 9 3 law Try.underlying103 _ B m _ rfl hown ?_; intro w4 hrg4 hg4 hs4)
            | go_in)
          have hall : lsum G (Maps.has (DataW.map es)) = sum2 G := lsum_all fun p hp => by
            rw [Maps.has_eq]
            exact List.any_eq_true.2 ⟨en p, HP.out.mem_iff.2 (List.mem_map.2 ⟨p, hp, rfl⟩), by show (kl p.1).sameKey (kl p.1) = true; rw [same_kl]; exact decide_eq_true rfl⟩
          have HALL := Lib.hid hall
          have HB4 := Lib.hid (show Below w.heap.size w w4 from G6.out.bel.trans ((show Below wr.heap.size wr w4 from ⟨hg4.os, hg4.tape, hg4.output, hg4.size, fun k hk => hg4.block k hk (by simp)⟩).mono G6.out.bel.size))
          have HC4 := Lib.hid (show Row w4 P 103 [.map (some B)] from G6.out.cl.same (hg4.block P G6.out.cl.lt (by simp)))
          have hrl : w.heap.size ≤ wr.heap.size := G6.out.bel.size
          have hPr : P < wr.heap.size := G6.out.cl.lt
          obtain ⟨r, hr⟩ : ∃ r, r = wr.heap.size := ⟨_, rfl⟩
          rw [← hr] at hrg4 hrl hPr
          rw [← hr]
          clear hr hall hg4 hs4 hown HEN hcell G6
          go_frame
          go_loopw [7] (fun s7 wx => ∃ (left : Lit → Bool) (cnt x : Nat), s7 = .int .i64 x ∧ wx.ranges Try.prog 9 (plainElem Try.prog 3) B r m (DataW.map es) left cnt ∧ x + lsum G left = sum2 G ∧ Hid (Below w.heap.size w wx) ∧ Hid (Row wx P 103 [.map (some B)])) (fun _ wx => wx.rangeLeft B r)
          case atStart => exact ⟨_, _, 0, rfl, hrg4, by rw [HALL.out]; omega, HB4, HC4⟩
          case round =>
            clear hrg4 HALL HB4 HC4
            obtain ⟨left, cnt, x, rfl, hrg, hx, HB, HC⟩ := hrel
            have HX := Lib.hid hx
            clear hx
            go_wp2_with (first
              | (at_next; refine wpList_next_mg rfl _ rfl B r m G es left cnt HP.out HN.out rfl hrg ?_ ?_)
              | go_in)
            · intro h0
              have HX2 := Lib.hid (show x = sum2 G by have := HX.out; omega)
              have hln := MG.len (ty := 3) (show MG wr B m G from ⟨_, es, hrg.owns, rfl, HP.out, HN.out⟩)
              have hc := HC.out.cell 0
              clear hrg h0
              go_wp2_with fail
              refine bodyPost_ret (v := .tuple #[.int .i64 (G.length : Nat), .int .i64 (x : Nat)]) (by simp [results, Try.results44, go_sem]) rfl ?_
              rw [← HGE.out, HX2.out]
              exact ⟨rfl, HB.out⟩
            · intro c y w5 cnt5 left5 hl5 hrg5 hlt5 hg5 hs5 hen5
              have hxy : x + y ≤ 60000000000 := by have := HX.out; have := hl5; omega
              have HX5 := Lib.hid (show x + y + lsum G left5 = sum2 G by have := HX.out; omega)
              have HB5 := Lib.hid (HB.out.grown hg5 HB.out.size (fun k e => by obtain rfl := Option.some.inj e; exact hrl))
              have HC5 := Lib.hid (HC.out.same (hg5.block P HC.out.lt (fun e => by have : P = r := Option.some.inj e; omega)))
              have HM := Lib.hid (show w5.rangeLeft B r < wr.rangeLeft B r by rw [hrg5.left_eq, hrg.left_eq]; exact hlt5)
              clear hl5 hrg hg5 hs5 hlt5
              go_wp2_with fail
              go_roundw
              case measure => exact HM.out
              case rel => exact ⟨left5, cnt5, x + y, by go_num, hrg5, HX5.out, HB5, HC5⟩
end
end Go.Proofs.Ytolkghdeppoanaa.SfI
