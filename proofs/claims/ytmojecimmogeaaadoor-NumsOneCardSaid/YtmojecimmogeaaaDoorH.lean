/-
  Text: a set as a text; of what is no set nothing.
-/
import Derived.Test.YtmojecimmogeaaaDoorG
namespace Go.Proofs.YtmojecimmogeaaaDoor.H
open Go.RowKit Go.Proofs.YtmojecimmogeaaaDoor.Kit Go.Proofs.YtmojecimmogeaaaDoor.A Go.Proofs.YtmojecimmogeaaaDoor.B Go.Proofs.YtmojecimmogeaaaDoor.C Go.Proofs.YtmojecimmogeaaaDoor.D Go.Proofs.YtmojecimmogeaaaDoor.E Go.Proofs.YtmojecimmogeaaaDoor.F Go.Proofs.YtmojecimmogeaaaDoor.G

theorem info9 : (Tryd.prog.info? 9).map (fun i => (i.zero, i.size, i.bytes)) = some (some (.string ⟨#[]⟩), 1, 16) := by kernel_rfl
theorem wpList_str {w : World} {base n : Nat} {v : Value} {zs : List ByteArray} {z : ByteArray} {ops : Array Oper} {rest : List Oper} {o : Oper} {a : Act} {Q : Exit → Act → World → Prop} (hgd : o.guard = none) (s x : Operand)
    (ho : o.op = .call { callee := .builtin .append, args := #[s, x], argTypes := #[39, 39] }) (hs : a.eval s = v) (hx : a.eval x = .slice (some ⟨w.heap.size, 0, none⟩) 1 1) (hown : w.ownsRow base 9 1 v n (zs.map Value.string))
    (hb : n + 1 ≤ 8796093022208) (hbase : base ≤ w.heap.size)
    (h : ∀ v' w', w'.ownsRow base 9 1 v' (n + 1) ((zs ++ [z]).map Value.string) → (w.alloc (.cells #[.string z] 9)).grownBy w' v.ownBlock → wpList Tryd.prog ops Q rest (a.put o.dst v') w') : wpList Tryd.prog ops Q (o :: rest) a (w.alloc (.cells #[.string z] 9)) := by
  obtain ⟨i0, hi, hz0, hz1, hz2⟩ := info_parts info9
  refine wpList_append_own_at _ hgd s x 39 ho base 9 i0 (.string ⟨#[]⟩) 1 16 Tryd.underlying39 hi hz0 hz1 hz2 rfl (by decide) v n _ hs (hown.alloc _) ⟨w.heap.size, 0, none⟩ 1 1 [.string z] hx rfl (cell_one_new _ _ _) (by simp [Value.oneCell']) (by unfold maxLen; omega) (by omega) (by simp; omega) ?_
  intro v' w' h1 h2 _ _
  exact h v' w' (by rw [List.map_append]; exact h1) h2

def mkT (l : List UInt8) : ByteArray := ⟨l.toArray⟩
theorem mkT_app (a b : List UInt8) : mkT a ++ mkT b = mkT (a ++ b) := by
  unfold mkT
  apply ByteArray.ext
  simp [ByteArray.data_append]
/-- The parts of a text. -/
def pts (zs : List Sp) : List ByteArray := zs.map fun z => mkT (spT z)
theorem pts_snoc {zs : List Sp} {k : Nat} {z : Sp} (hz : zs[k]? = some z) : pts (zs.take (k + 1)) = pts (zs.take k) ++ [mkT (spT z)] := by
  obtain ⟨hl, rfl⟩ := List.getElem?_eq_some_iff.1 hz
  unfold pts
  rw [List.take_succ_eq_append_getElem hl, List.map_append]; rfl
theorem pts_txt (zs : List Sp) : Lib.join ((pts zs).map (·.data.toList)) [44] = txt zs := by
  unfold pts txt mkT
  rw [List.map_map]
  congr 1
/-- Text's answer. -/
def txB (zs : List Sp) : ByteArray := if mayB zs then mkT (txt zs) else ⟨#[]⟩

/-- strings.Join of a row of the call's own, with a comma between. -/
theorem join_own {w : World} {base n : Nat} {v : Value} {zs : List Sp} (h : w.ownsRow base 9 1 v n ((pts zs).map Value.string)) (hall : ∀ z ∈ zs, okS z = true) (hl : zs.length ≤ 20) :
    Calls Tryd.prog 18 #[v, .string ⟨#[44]⟩] w fun e w' => e = .returned (.string (mkT (txt zs))) ∧ Below w.heap.size w w' := by
  obtain ⟨A, cp, rfl, hcp⟩ := own_slice h
  have hn : zs.length = n := by have := h.1; simpa [pts] using this
  by_cases h0 : zs.length = 0
  · have he : zs = [] := List.eq_nil_of_length_eq_zero h0
    subst he
    obtain rfl : 0 = n := hn
    exact (Tryd.strings_Join_none A cp _ w).mono fun e w' ⟨he, hw⟩ => ⟨he, by rw [hw]; exact Below.refl _ _⟩
  · obtain ⟨g, cap, hv, _, hlt⟩ := own_form h (by omega)
    have hA : A = some ⟨g, 0, none⟩ := by injection hv
    subst hA
    have hj := txt_len hall
    have hpl : (pts zs).length = n := by simp [pts, hn]
    subst hpl
    have J := Tryd.strings_Join g 0 cp (pts zs) ⟨#[44]⟩ w (fun j x hx => by
      have := h.cells (g := g) rfl j (.string x) (by rw [List.getElem?_map, hx]; rfl)
      rw [← this]
      congr 1
      unfold Addr.add
      split <;> simp_all) hlt (by omega) hcp (by
        show (Lib.join ((pts zs).map (·.data.toList)) [44]).length ≤ _
        rw [pts_txt]; omega)
    refine J.mono fun e w' ⟨he, hb⟩ => ⟨?_, hb⟩
    rw [he]
    show Ending.returned (.string (mkT (Lib.join ((pts zs).map (·.data.toList)) [44]))) = _
    rw [pts_txt]

def OWs (w wr : World) (n : Nat) (v : Value) (zs : List ByteArray) : Prop := wr.ownsRow w.heap.size 9 1 v n (zs.map Value.string) ∧ Below w.heap.size w wr
theorem OWs.below {w wr w2 : World} {n : Nat} {v : Value} {zs : List ByteArray} (h : OWs w wr n v zs) (hb : Below wr.heap.size wr w2) : OWs w w2 n v zs :=
  ⟨h.1.kept (grown_below hb none) (by cases hv : v.ownBlock <;> simp), h.2.trans (hb.mono h.2.size)⟩
theorem OWs.alloc {w wr : World} {n : Nat} {v : Value} {zs : List ByteArray} (h : OWs w wr n v zs) (o : Obj) : OWs w (wr.alloc o) n v zs := ⟨h.1.alloc o, h.2.alloc h.2.size o⟩

/-- A span laid in a new block, still there behind a call. -/
theorem cell_new {wr w2 : World} {x y : Int} (hb : Below (wr.alloc (.cells #[.int .i64 x, .int .i64 y] 32)).heap.size (wr.alloc (.cells #[.int .i64 x, .int .i64 y] 32)) w2) :
    w2.cell? { block := wr.heap.size, off := 0 } = some (.int .i64 x) ∧ w2.cell? { block := wr.heap.size, off := 1 } = some (.int .i64 y) := by
  rw [hb.cell (p := ⟨wr.heap.size, 0, none⟩) (by simp), hb.cell (p := ⟨wr.heap.size, 1, none⟩) (by simp)]
  constructor <;> simp
set_option maxHeartbeats 2000000 in
set_option maxRecDepth 100000 in
theorem text_any {A : Option Addr} {n cp : Nat} {zs : List Sp} {w : World} (hz : SpansAt w A n zs) (ht : Tab w) :
    Calls Tryd.prog 9 #[.slice A n cp] w fun e w' => e = .returned (.string (txB zs)) ∧ Below w.heap.size w w' := by
  have HM := may_any (cp := cp) hz
  cases hm : mayB zs with
  | false =>
    rw [hm] at HM
    have HF := Lib.hid (show txB zs = ⟨#[]⟩ by unfold txB; rw [hm]; rfl)
    have K := Lib.hid HM
    clear HM hm hz ht
    go_enter Tryd.func9, Tryd.ntmps9
    go_wp2_with (go_at_call 8; refine K.out.mono ?_; rintro e w' ⟨rfl, hb⟩)
    go_ret
    exact ⟨ret_str HF.out.symm, hb⟩
  | true =>
    rw [hm] at HM
    have HF := Lib.hid (show txB zs = mkT (txt zs) by unfold txB; rw [hm]; rfl)
    have HALL := Lib.hid (may_all hm)
    have h20 := may_len hm
    have hzl := hz.1
    have hn20 : (n : Int) ≤ 20 := by omega
    have HL := Lib.hid hzl
    have HZ := Lib.hid hz
    have HT := Lib.hid ht
    have K := Lib.hid HM
    clear HM hm hz ht h20 hzl
    go_enter Tryd.func9, Tryd.ntmps9
    go_wp2_with (go_at_call 8; refine K.out.mono ?_; rintro e w1 ⟨rfl, hb⟩)
    have HB1 := Lib.hid hb
    clear hb K
    go_loopw [3, 12] (fun s3 s12 wr => ∃ (k : Nat) (v : Value), v = s3 ∧ k ≤ n ∧ s12 = .int .i64 k ∧ Hid (OWs w wr k v (pts (zs.take k)))) (fun _ s12 _ => n - (intOf s12).toNat)
    case atStart => exact ⟨0, _, rfl, Nat.zero_le _, rfl, World.ownsRow_nil _ _ _ _, HB1.out⟩
    case round =>
      clear HB1
      obtain ⟨k, v, rfl, hk, rfl, HO⟩ := hrel
      by_cases hlt : k < n
      · obtain ⟨ad, x, y, rfl, hx, hc1, hc2⟩ := HZ.out.sp HO.out.2 (Nat.le_refl _) hlt
        have HX := Lib.hid hx
        have hok := HALL.out (x, y) (List.mem_of_getElem? hx)
        obtain ⟨⟨a1, a2⟩, b1, b2⟩ := okS_parts hok
        have ht0 : Tab (wr.alloc (.cells #[.int .i64 x, .int .i64 y] 32)) := HT.out.below (HO.out.alloc _).2 (Nat.le_refl _)
        have T1 := Lib.hid (textEnd_any a1 a2 ht0)
        have HO0 := Lib.hid (HO.out.alloc (.cells #[.int .i64 x, .int .i64 y] 32))
        clear hx hok ht0
        by_cases hxy : x = y
        · subst hxy
          have hxb : (x != x) = false := by simp
          have HS := Lib.hid (show mkT (spT (x, x)) = ⟨(endT x).toArray⟩ by rw [spT_one rfl]; rfl)
          obtain ⟨E, hE⟩ : ∃ E : ByteArray, E = ⟨(endT x).toArray⟩ := ⟨_, rfl⟩
          rw [← hE] at T1 HS
          clear hE HO a1 a2 b1 b2
          go_wp2_with fail
          refine T1.out.mono ?_
          rintro e w2 ⟨rfl, hb2⟩
          obtain ⟨c1, c2⟩ := cell_new hb2
          have HO2 := Lib.hid (HO0.out.below hb2)
          have hws := HO2.out.2.size
          clear hb2 HO0
          go_wp2_with (at_builtin; refine wpList_str rfl _ _ rfl rfl rfl HO2.out.1 (by omega) hws ?_; intro v' w3 hown3 hg3)
          have HO3 := Lib.hid (show OWs w w3 (k + 1) v' (pts (zs.take (k + 1))) from ⟨by rw [pts_snoc HX.out, HS.out]; exact hown3, (HO2.out.2.alloc hws _).grown hg3 (by simp; omega) (fun g e => (HO2.out.1.lt g e).1)⟩)
          clear hown3 hg3 HO2
          go_roundw
          case rel => exact ⟨k + 1, _, rfl, by omega, by go_num, HO3⟩
          case measure => simp [intOf]; omega
        · have hxb : (x != y) = true := by simpa using hxy
          have HS := Lib.hid (show mkT (spT (x, y)) = mkT (endT x) ++ (⟨#[58]⟩ ++ mkT (endT y)) by
            rw [spT_two hxy, show (⟨#[58]⟩ : ByteArray) = mkT [58] from rfl, mkT_app, mkT_app]; rfl)
          have l1 : ((mkT (endT x)).size : Int) ≤ 7 := by have := endT_len a1 a2; simp [mkT, ByteArray.size]; omega
          have l2 : ((mkT (endT y)).size : Int) ≤ 7 := by have := endT_len b1 b2; simp [mkT, ByteArray.size]; omega
          obtain ⟨E, hE⟩ : ∃ E : ByteArray, E = mkT (endT x) := ⟨_, rfl⟩
          obtain ⟨F, hF⟩ : ∃ F : ByteArray, F = mkT (endT y) := ⟨_, rfl⟩
          have T1' := T1.out
          rw [show (⟨(endT x).toArray⟩ : ByteArray) = E from hE.symm] at T1'
          rw [← hE] at HS l1
          rw [← hF] at HS l2
          have T1 := Lib.hid T1'
          have HFF := Lib.hid hF
          have HB := Lib.hid (And.intro b1 b2)
          clear hE hF HO a1 a2 b1 b2 hxy T1'
          go_wp2_with fail
          refine T1.out.mono ?_
          rintro e w2 ⟨rfl, hb2⟩
          obtain ⟨c1, c2⟩ := cell_new hb2
          have HO2 := Lib.hid (HO0.out.below hb2)
          have T2' := textEnd_any HB.out.1 HB.out.2 (HT.out.below HO2.out.2 (Nat.le_refl _))
          rw [show (⟨(endT y).toArray⟩ : ByteArray) = F from HFF.out.symm] at T2'
          have T2 := Lib.hid T2'
          clear hb2 HO0 T2'
          go_wp2_with fail
          refine T2.out.mono ?_
          rintro e w3 ⟨rfl, hb3⟩
          have HO3 := Lib.hid (HO2.out.below hb3)
          have hws := HO3.out.2.size
          clear hb3 HO2 c1 c2
          go_wp2_with (at_builtin; refine wpList_str rfl _ _ rfl rfl rfl HO3.out.1 (by omega) hws ?_; intro v' w4 hown4 hg4)
          have HO4 := Lib.hid (show OWs w w4 (k + 1) v' (pts (zs.take (k + 1))) from ⟨by rw [pts_snoc HX.out, HS.out]; exact hown4, (HO3.out.2.alloc hws _).grown hg4 (by simp; omega) (fun g e => (HO3.out.1.lt g e).1)⟩)
          clear hown4 hg4 HO3
          go_roundw
          case rel => exact ⟨k + 1, _, rfl, by omega, by go_num, HO4⟩
          case measure => simp [intOf]; omega
      · obtain rfl : k = n := by omega
        have hzn : zs.take k = zs := List.take_of_length_le (by rw [HL.out]; omega)
        have h1 := HO.out
        rw [hzn] at h1
        have HO1 := Lib.hid h1
        have J := Lib.hid (join_own h1.1 HALL.out (by have := HL.out; omega))
        clear h1 hzn HO
        go_wp2_with (go_at_call 18; refine J.out.mono ?_; rintro e w2 ⟨rfl, hb2⟩)
        go_ret
        exact ⟨ret_str HF.out.symm, HO1.out.2.trans (hb2.mono HO1.out.2.size)⟩
end Go.Proofs.YtmojecimmogeaaaDoor.H
