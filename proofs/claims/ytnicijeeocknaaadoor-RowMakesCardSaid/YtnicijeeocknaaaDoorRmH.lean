/-
  The document's Flags, whatever it is asked.
-/
import Derived.Test.YtnicijeeocknaaaDoorRmG
import Derived.Test.YtnicijeeocknaaaDoorRmG1
import Derived.Test.YtnicijeeocknaaaDoorRmG2
set_option linter.unusedVariables false
set_option linter.unusedSimpArgs false
namespace Go.Proofs.YtnicijeeocknaaaDoor.RmH
open Go.RowKit Go.Proofs.YtnicijeeocknaaaDoor.BxD Go.Proofs.YtnicijeeocknaaaDoor.BxKit Go.Proofs.YtnicijeeocknaaaDoor.BxA Go.Proofs.YtnicijeeocknaaaDoor.BxB Go.Proofs.YtnicijeeocknaaaDoor.RwD Go.Proofs.YtnicijeeocknaaaDoor.RwM Go.Proofs.YtnicijeeocknaaaDoor.RwF Go.Proofs.YtnicijeeocknaaaDoor.RwKit Go.Proofs.YtnicijeeocknaaaDoor.RwW15 Go.Proofs.YtnicijeeocknaaaDoor.RwW17 Go.Proofs.YtnicijeeocknaaaDoor.RmA Go.Proofs.YtnicijeeocknaaaDoor.RmB Go.Proofs.YtnicijeeocknaaaDoor.RmF

set_option maxHeartbeats 4000000 in
set_option maxRecDepth 100000 in
theorem refFl_one {w : World} {b : Box} {u flags how : Int} {words : List ByteArray} {WA MA A : Option Addr} {wn wc mn mcp n cp B : Nat} (hx : StrsAt w B WA wn b.words) (hm : MsgsAt w B MA mn b.msgs) (hwc : wn ≤ wc) (hB : B ≤ w.heap.size) (hz : StrsAt w B A n words) (hn : n ≤ cp) (h : mbE b ≠ 0 ∨ flags < 0 ∨ 31 < flags ∨ wordsB words = false ∨ how < 0 ∨ 2 < how) :
    Calls Tryd.prog 10 #[.agg #[.string b.id, .int .i64 b.valid, .int .i64 b.next, .int .i64 b.high, .slice WA wn wc, .slice MA mn mcp], .int .i64 u, .int .i64 flags, .slice A n cp, .int .i64 how] w (RowsOut [] 1 w) := by
  have A0 := Lib.hid (After.start w (.cells #[.string b.id, .int .i64 b.valid, .int .i64 b.next, .int .i64 b.high, .slice WA wn wc, .slice MA mn mcp] 25))
  have hbl := A0.out.below
  have km := ref_may (bid := b.id) (bv := b.valid) (bn := b.next) (bh := b.high) (mc := mcp) (StrsAt.below hx hbl hB) (MsgsAt.below hm hbl hB) (by simp; omega) hwc
  rw [show mbE ⟨b.id, b.valid, b.next, b.high, b.words, b.msgs⟩ = mbE b from rfl] at km
  obtain ⟨E, hEE⟩ : ∃ E, E = mbE b := ⟨_, rfl⟩
  rw [← hEE] at km h
  have KM := Lib.hid km
  have HZ := Lib.hid hz
  obtain ⟨wv, hwv⟩ : ∃ wv, wv = wordsB words := ⟨_, rfl⟩
  rw [← hwv] at h
  have HWV := Lib.hid hwv
  clear hbl km hx hm hz hEE hwv
  by_cases he : E = 0
  case neg =>
    have he2 : (E != 0) = true := by simpa using he
    clear h he
    go_enter Tryd.func10, Tryd.ntmps10
    go_upto_region 1 with fail
    generalize (World.alloc w _) = w1 at A0 KM ⊢
    obtain ⟨c0, c1, c2, c3, c4, c5⟩ := A0.out.box
    go_wp2_with (first
      | (go_at_call 23; go_loud (
                 refine KM.out.mono ?_
                 rintro e w2 ⟨rfl, hb2⟩
                 have A2 := Lib.hid (A0.out.go hb2)
                 have kw := mayWords_any (cp := cp) (StrsAt.below HZ.out A2.out.below hB) hn (by have := A2.out.size; omega)
                 rw [← HWV.out] at kw
                 have KW := Lib.hid kw
                 clear hb2 kw c0 c1 c2 c3 c4 c5))
      | (go_at_call 24; go_loud (refine KW.out.mono ?_; rintro e w3 ⟨rfl, rfl⟩)))
    refine bodyPost_ret (v := .tuple #[.slice none 0 0, .int .i64 1]) (by rw [results_tmp2 (t := 10) (u := 11) rfl]; rfl) rfl ?_
    exact rowsOut_nil A2.out.below
  subst he
  by_cases f1 : flags < 0
  · clear h
    go_enter Tryd.func10, Tryd.ntmps10
    go_upto_region 1 with fail
    generalize (World.alloc w _) = w1 at A0 KM ⊢
    obtain ⟨c0, c1, c2, c3, c4, c5⟩ := A0.out.box
    go_wp2_with (first
      | (go_at_call 23; go_loud (
                 refine KM.out.mono ?_
                 rintro e w2 ⟨rfl, hb2⟩
                 have A2 := Lib.hid (A0.out.go hb2)
                 have kw := mayWords_any (cp := cp) (StrsAt.below HZ.out A2.out.below hB) hn (by have := A2.out.size; omega)
                 rw [← HWV.out] at kw
                 have KW := Lib.hid kw
                 clear hb2 kw c0 c1 c2 c3 c4 c5))
      | (go_at_call 24; go_loud (refine KW.out.mono ?_; rintro e w3 ⟨rfl, rfl⟩)))
    refine bodyPost_ret (v := .tuple #[.slice none 0 0, .int .i64 1]) (by rw [results_tmp2 (t := 10) (u := 11) rfl]; rfl) rfl ?_
    exact rowsOut_nil A2.out.below
  by_cases f2 : 31 < flags
  · clear h
    go_enter Tryd.func10, Tryd.ntmps10
    go_upto_region 1 with fail
    generalize (World.alloc w _) = w1 at A0 KM ⊢
    obtain ⟨c0, c1, c2, c3, c4, c5⟩ := A0.out.box
    go_wp2_with (first
      | (go_at_call 23; go_loud (
                 refine KM.out.mono ?_
                 rintro e w2 ⟨rfl, hb2⟩
                 have A2 := Lib.hid (A0.out.go hb2)
                 have kw := mayWords_any (cp := cp) (StrsAt.below HZ.out A2.out.below hB) hn (by have := A2.out.size; omega)
                 rw [← HWV.out] at kw
                 have KW := Lib.hid kw
                 clear hb2 kw c0 c1 c2 c3 c4 c5))
      | (go_at_call 24; go_loud (refine KW.out.mono ?_; rintro e w3 ⟨rfl, rfl⟩)))
    refine bodyPost_ret (v := .tuple #[.slice none 0 0, .int .i64 1]) (by rw [results_tmp2 (t := 10) (u := 11) rfl]; rfl) rfl ?_
    exact rowsOut_nil A2.out.below
  cases wv with
  | false =>
    clear h
    go_enter Tryd.func10, Tryd.ntmps10
    go_upto_region 1 with fail
    generalize (World.alloc w _) = w1 at A0 KM ⊢
    obtain ⟨c0, c1, c2, c3, c4, c5⟩ := A0.out.box
    go_wp2_with (first
      | (go_at_call 23; go_loud (
                 refine KM.out.mono ?_
                 rintro e w2 ⟨rfl, hb2⟩
                 have A2 := Lib.hid (A0.out.go hb2)
                 have kw := mayWords_any (cp := cp) (StrsAt.below HZ.out A2.out.below hB) hn (by have := A2.out.size; omega)
                 rw [← HWV.out] at kw
                 have KW := Lib.hid kw
                 clear hb2 kw c0 c1 c2 c3 c4 c5))
      | (go_at_call 24; go_loud (refine KW.out.mono ?_; rintro e w3 ⟨rfl, rfl⟩)))
    refine bodyPost_ret (v := .tuple #[.slice none 0 0, .int .i64 1]) (by rw [results_tmp2 (t := 10) (u := 11) rfl]; rfl) rfl ?_
    exact rowsOut_nil A2.out.below
  | true =>
    by_cases h1 : how < 0
    · clear h
      go_enter Tryd.func10, Tryd.ntmps10
      go_upto_region 1 with fail
      generalize (World.alloc w _) = w1 at A0 KM ⊢
      obtain ⟨c0, c1, c2, c3, c4, c5⟩ := A0.out.box
      go_wp2_with (first
        | (go_at_call 23; go_loud (
                   refine KM.out.mono ?_
                   rintro e w2 ⟨rfl, hb2⟩
                   have A2 := Lib.hid (A0.out.go hb2)
                   have kw := mayWords_any (cp := cp) (StrsAt.below HZ.out A2.out.below hB) hn (by have := A2.out.size; omega)
                   rw [← HWV.out] at kw
                   have KW := Lib.hid kw
                   clear hb2 kw c0 c1 c2 c3 c4 c5))
        | (go_at_call 24; go_loud (refine KW.out.mono ?_; rintro e w3 ⟨rfl, rfl⟩)))
      refine bodyPost_ret (v := .tuple #[.slice none 0 0, .int .i64 1]) (by rw [results_tmp2 (t := 10) (u := 11) rfl]; rfl) rfl ?_
      exact rowsOut_nil A2.out.below
    · have h2 : 2 < how := by
        rcases h with h | h | h | h | h | h
        · exact absurd rfl h
        · omega
        · omega
        · cases h
        · omega
        · exact h
      clear h
      go_enter Tryd.func10, Tryd.ntmps10
      go_upto_region 1 with fail
      generalize (World.alloc w _) = w1 at A0 KM ⊢
      obtain ⟨c0, c1, c2, c3, c4, c5⟩ := A0.out.box
      go_wp2_with (first
        | (go_at_call 23; go_loud (
                   refine KM.out.mono ?_
                   rintro e w2 ⟨rfl, hb2⟩
                   have A2 := Lib.hid (A0.out.go hb2)
                   have kw := mayWords_any (cp := cp) (StrsAt.below HZ.out A2.out.below hB) hn (by have := A2.out.size; omega)
                   rw [← HWV.out] at kw
                   have KW := Lib.hid kw
                   clear hb2 kw c0 c1 c2 c3 c4 c5))
        | (go_at_call 24; go_loud (refine KW.out.mono ?_; rintro e w3 ⟨rfl, rfl⟩)))
      refine bodyPost_ret (v := .tuple #[.slice none 0 0, .int .i64 1]) (by rw [results_tmp2 (t := 10) (u := 11) rfl]; rfl) rfl ?_
      exact rowsOut_nil A2.out.below
theorem refFl_any {w : World} {b : Box} {u flags how : Int} {words : List ByteArray} {WA MA A : Option Addr} {wn wc mn mcp n cp B : Nat} (hx : StrsAt w B WA wn b.words) (hm : MsgsAt w B MA mn b.msgs) (hwc : wn ≤ wc) (hB : B ≤ w.heap.size) (hz : StrsAt w B A n words) (hn : n ≤ cp) (hfew : n ≤ 100000 ∨ ∃ x ∈ words, 24 < x.size) :
    Calls Tryd.prog 10 #[.agg #[.string b.id, .int .i64 b.valid, .int .i64 b.next, .int .i64 b.high, .slice WA wn wc, .slice MA mn mcp], .int .i64 u, .int .i64 flags, .slice A n cp, .int .i64 how] w (RowsOut (flP b u flags words how) (flE b u flags words how) w) := by
  by_cases h : mbE b ≠ 0 ∨ flags < 0 ∨ 31 < flags ∨ wordsB words = false ∨ how < 0 ∨ 2 < how
  · have hE : flE b u flags words how = 1 := by
      unfold flE
      rw [if_pos]
      rcases h with h | h | h | h | h | h
      · exact .inl h
      · exact .inr (.inl (inB_false (.inl h)))
      · exact .inr (.inl (inB_false (.inr h)))
      · exact .inr (.inr (.inl h))
      · exact .inr (.inr (.inr (inB_false (.inl h))))
      · exact .inr (.inr (.inr (inB_false (.inr h))))
    have hP : flP b u flags words how = [] := by unfold flP; rw [hE]; rfl
    rw [hE, hP]
    exact refFl_one hx hm hwc hB hz hn h
  · have h0 : mbE b = 0 := by
      rcases Int.lt_trichotomy (mbE b) 0 with h1 | h1 | h1
      · exact absurd (.inl (by omega)) h
      · exact h1
      · exact absurd (.inl (by omega)) h
    have hw : wordsB words = true := by
      cases hv : wordsB words with
      | true => rfl
      | false => exact absurd (.inr (.inr (.inr (.inl hv)))) h
    have hf := few_words hw (by rw [hz.len]; exact hfew)
    have g1 : 0 ≤ flags := by
      rcases Int.lt_or_le flags 0 with h1 | h1
      · exact absurd (.inr (.inl h1)) h
      · exact h1
    have g2 : flags ≤ 31 := by
      rcases Int.lt_or_le 31 flags with h1 | h1
      · exact absurd (.inr (.inr (.inl h1))) h
      · exact h1
    have g3 : how = 0 ∨ how = 1 ∨ how = 2 := by
      rcases Int.lt_or_le how 0 with h1 | h1
      · exact absurd (.inr (.inr (.inr (.inr (.inl h1))))) h
      · rcases Int.lt_or_le 2 how with h2 | h2
        · exact absurd (.inr (.inr (.inr (.inr (.inr h2))))) h
        · omega
    rcases g3 with rfl | rfl | rfl
    · exact RmG.refFl_0 hx hm hwc hB hz hn h0 hw hf g1 g2
    · exact RmG1.refFl_1 hx hm hwc hB hz hn h0 hw hf g1 g2
    · exact RmG2.refFl_2 hx hm hwc hB hz hn h0 hw hf g1 g2
end Go.Proofs.YtnicijeeocknaaaDoor.RmH
