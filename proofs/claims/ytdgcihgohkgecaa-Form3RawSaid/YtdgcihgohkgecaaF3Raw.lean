/-
  Form3Raw: of any bytes: no box, or a box whose bytes are just these.
-/
import Derived.Test.YtdgcihgohkgecaaF3Aw
import Derived.Test.YtdgcihgohkgecaaF3Y
import Derived.Deep.CutBlock
namespace Go.Proofs.Ytdgcihgohkgecaa.F3Raw
open Go.RowKit Go.Proofs.Ytdgcihgohkgecaa.BxD Go.Proofs.Ytdgcihgohkgecaa.BxKit Go.Proofs.Ytdgcihgohkgecaa.OlD Go.Proofs.Ytdgcihgohkgecaa.PtK Go.Proofs.Ytdgcihgohkgecaa.F3D
open Go.Proofs.Ytdgcihgohkgecaa.PkKit (BytesAt)

set_option maxHeartbeats 4000000 in
set_option maxRecDepth 100000 in
theorem walk {A : Option Addr} {n cp : Nat} {l : List UInt8} {id : ByteArray} {w : World} (hz : BytesAt w w.heap.size A n l) (hc : n ≤ cp) (hn : n ≤ 140737488355328) (_hid : id.size ≤ 140737488355328) :
    Calls Try.prog 4 #[.slice A n cp, .string id] w fun e w' => e = .returned (.bool true) ∧ Below w.heap.size w w' := by
  have HAW := Lib.hid (fun (wr : World) => F3Aw.awake wr)
  have HZ := Lib.hid hz
  clear hz
  by_cases hbig : 40000 < n
  · go_enter Try.func4, Try.ntmps4
    go_wp2_with (go_at_call 9; refine (HAW.out _).mono ?_; rintro e w' ⟨rfl, hb⟩)
    go_ret
    exact ⟨rfl, hb⟩
  by_cases hbig2 : 100 < id.size
  · go_enter Try.func4, Try.ntmps4
    go_wp2_with (go_at_call 9; refine (HAW.out _).mono ?_; rintro e w' ⟨rfl, hb⟩)
    go_ret
    exact ⟨rfl, hb⟩
  have h5 : n ≤ 40000 := by omega
  have h6 : id.size ≤ 100 := by omega
  clear hbig hbig2
  have kp := (F3Y.parse_any (cp := cp) (id := id) HZ.out (Nat.le_refl _) hc hn).mono (fun _ _ => ParseNew.out)
  have hr := parse3_raw (l := l) (id := id)
  have he := parse3_err l id
  obtain ⟨b, hb⟩ : ∃ b, b = (parse3S l id).1 := ⟨_, rfl⟩
  obtain ⟨er, her⟩ : ∃ er, er = (parse3S l id).2 := ⟨_, rfl⟩
  rw [← hb, ← her] at kp hr he
  have KP := Lib.hid kp
  clear kp hb her
  go_enter Try.func4, Try.ntmps4
  go_upto_region 4 with (go_at_call 11; go_loud (
     refine KP.out.mono ?_
     rintro e w1 ⟨WA, wn, wc, MA, mn, mc', rfl, hwc, hmc, hx, hm, hb1⟩
     have HX := Lib.hid hx
     have HM := Lib.hid hm
     have HB1 := Lib.hid hb1
     clear hx hm hb1))
  have X5 := Lib.hid (heap_alloc_new w1 (.cells #[.string b.id, .int .i64 b.valid, .int .i64 b.next, .int .i64 b.high, .slice WA wn wc, .slice MA mn mc'] 25))
  have B5 := Lib.hid ((Below.refl w1.heap.size w1).alloc (Nat.le_refl _) (.cells #[.string b.id, .int .i64 b.valid, .int .i64 b.next, .int .i64 b.high, .slice WA wn wc, .slice MA mn mc'] 25))
  obtain ⟨X, hX⟩ : ∃ X, X = w1.heap.size := ⟨_, rfl⟩
  rw [← hX] at X5 ⊢
  have HXX := Lib.hid hX
  clear hX KP
  generalize (World.alloc w1 _) = w2 at X5 B5 ⊢
  have cX := fun o => cell_of_row w2 X o _ _ _ X5.out
  have d0 := (cX 0).trans (show _ = some (Value.string b.id) from rfl)
  have d1 := (cX 1).trans (show _ = some (Value.int .i64 b.valid) from rfl)
  have d2 := (cX 2).trans (show _ = some (Value.int .i64 b.next) from rfl)
  have d3 := (cX 3).trans (show _ = some (Value.int .i64 b.high) from rfl)
  have d4 := (cX 4).trans (show _ = some (Value.slice WA wn wc) from rfl)
  have d5 := (cX 5).trans (show _ = some (Value.slice MA mn mc') from rfl)
  clear cX
  have W2 := Lib.hid (HB1.out.trans (B5.out.mono HB1.out.size))
  by_cases h0 : er = 0
  · subst h0
    obtain ⟨r1, r2, r3⟩ := hr rfl
    have KB := Lib.hid (F3C.bytes_ok (b := b) (StrsAt.below HX.out B5.out (Nat.le_refl _)) (MsgsAt.below HM.out B5.out (Nat.le_refl _)) hwc hmc B5.out.size r3)
    subst r2
    clear hr he
    go_upto_region 7 with (go_at_call 10; go_loud (
       refine KB.out.mono ?_
       rintro e w3 ⟨A3, n3, c3, rfl, hc3, hx3, hb3⟩
       have h3 : Below w.heap.size w w3 := W2.out.trans (hb3.mono W2.out.size)
       have q1 := (HZ.out.below h3 (Nat.le_refl _)).conv cp
       have q2 := hx3.conv c3
       rw [r1] at q2
       have W3 := Lib.hid h3
       have x0 : w3.cell? { block := X, off := 0 } = some (.string b.id) := (hb3.cell (show X < w2.heap.size from (Array.getElem?_eq_some_iff.1 X5.out).1)).trans d0
       clear h3 hx3 hb3 d0 d1 d2 d3 d4 d5))
    obtain ⟨T, hT⟩ : ∃ T : ByteArray, T = ⟨l.toArray⟩ := ⟨_, rfl⟩
    rw [← hT] at q1 q2
    clear hT r1
    have q3 : (T.toList == T.toList) = true := by simp
    have q4 : (b.id.toList == b.id.toList) = true := by simp
    go_wp2_with (go_at_call 9; refine (HAW.out _).mono ?_; rintro e w7 ⟨rfl, hb7⟩)
    go_ret
    exact ⟨rfl, W3.out.trans (hb7.mono W3.out.size)⟩
  · have hnb : b = nB := by
      rcases he with h | ⟨h, _⟩
      · exact absurd h h0
      · exact h
    have hmn : mn = 0 := by
      have := HM.out.len
      rw [hnb] at this
      exact this.symm
    subst hmn
    have he1 : (er == 0) = false := by simpa using h0
    have he2 : (er != 0) = true := by simpa using h0
    clear hr he hnb
    go_wp2_with (go_at_call 9; refine (HAW.out _).mono ?_; rintro e w7 ⟨rfl, hb7⟩)
    go_ret
    exact ⟨rfl, W2.out.trans (hb7.mono W2.out.size)⟩
end Go.Proofs.Ytdgcihgohkgecaa.F3Raw
