/-
  RwApi + RwApi2
-/
import Derived.Test.YtnicijeeocknaaaDoorL3
import Derived.Test.YtnicijeeocknaaaDoorL8
import Derived.Test.YtnicijeeocknaaaDoorRwW12
import Derived.Test.YtnicijeeocknaaaDoorRwAw
import Derived.Test.YtnicijeeocknaaaDoorL4
set_option linter.unusedVariables false
set_option linter.unusedSimpArgs false
namespace Go.Proofs.YtnicijeeocknaaaDoor.RwApi
open Go.RowKit Go.Proofs.YtnicijeeocknaaaDoor.BxD Go.Proofs.YtnicijeeocknaaaDoor.BxKit Go.Proofs.YtnicijeeocknaaaDoor.RwD Go.Proofs.YtnicijeeocknaaaDoor.RwM Go.Proofs.YtnicijeeocknaaaDoor.RwF Go.Proofs.YtnicijeeocknaaaDoor.RwKit

/-- What awake of layer 7 asks of the world: the table of the digits, the table of the flags. -/
def Tab (w : World) : Prop := RwW15.Tab w
theorem Tab.below {w w' : World} (h : Tab w) (hb : Below w.heap.size w w') : Tab w' := RwW15.Tab.below h hb (Nat.le_refl _)
theorem awake {w : World} (h : Tab w) : Calls Tryd.prog 6 #[] w fun e w' => e = .returned (.bool true) ∧ Below w.heap.size w w' := RwAw.awake h
theorem all_any {w : World} {b : Box} {l : List Row} {WA MA A : Option Addr} {wn wc mn mc n cp B : Nat} (h1 : StrsAt w B WA wn b.words) (h2 : MsgsAt w B MA mn b.msgs) (h3 : wn ≤ wc) (h4 : mn ≤ mc) (_ : b.id.size ≤ 140737488355328) (h5 : B ≤ w.heap.size) (h6 : RowsAt w B A n l) (h7 : n ≤ cp) (h8 : ∀ r ∈ l, r.msg.keys.length ≤ 1000000) :
    Calls Tryd.prog 14 #[.agg #[.string b.id, .int .i64 b.valid, .int .i64 b.next, .int .i64 b.high, .slice WA wn wc, .slice MA mn mc], .slice A n cp] w (BoxOut (allP b l).1 (allP b l).2 w) := RwW10.all_any h1 h2 h3 h4 h5 h6 h7 (fun r hr => Nat.le_trans (h8 r hr) (by decide))
abbrev cutP := RwW12.cutP
theorem cut_any {w : World} {b : Box} {l : List Int} {WA MA A : Option Addr} {wn wc mn mc n cp B : Nat} (h1 : StrsAt w B WA wn b.words) (h2 : MsgsAt w B MA mn b.msgs) (h3 : wn ≤ wc) (h4 : mn ≤ mc) (_ : b.id.size ≤ 140737488355328) (h5 : B ≤ w.heap.size) (h6 : IntsAt w B A n l) (h7 : n ≤ cp) :
    Calls Tryd.prog 11 #[.agg #[.string b.id, .int .i64 b.valid, .int .i64 b.next, .int .i64 b.high, .slice WA wn wc, .slice MA mn mc], .slice A n cp] w (RowsOut (cutP b l) (cutE b l) w) := RwW12.cut_any h1 h2 h3 h4 h5 h6 h7
theorem cut_few {b : Box} {l : List Int} : ∀ r ∈ cutP b l, r.msg.keys.length ≤ 1000000 := fun r hr => by
  unfold cutP RwW12.cutP at hr
  split at hr
  · rw [(RwW12.cutG_keys _ _ r hr).1]; decide
  · simp at hr
end Go.Proofs.YtnicijeeocknaaaDoor.RwApi

namespace Go.Proofs.YtnicijeeocknaaaDoor.RwApi2
open Go.RowKit Go.Proofs.YtnicijeeocknaaaDoor.BxD Go.Proofs.YtnicijeeocknaaaDoor.BxKit Go.Proofs.YtnicijeeocknaaaDoor.RwD Go.Proofs.YtnicijeeocknaaaDoor.RwM Go.Proofs.YtnicijeeocknaaaDoor.RwF Go.Proofs.YtnicijeeocknaaaDoor.RwKit Go.Proofs.YtnicijeeocknaaaDoor.RwApi Go.Proofs.YtnicijeeocknaaaDoor.RwW17

abbrev flP := RwW17.flP
theorem flags_any {w : World} {b : Box} {u flags how : Int} {words : List ByteArray} {WA MA A : Option Addr} {wn wc mn mc n cp B : Nat} (ht : RwApi.Tab w) (h1 : StrsAt w B WA wn b.words) (h2 : MsgsAt w B MA mn b.msgs) (h3 : wn ≤ wc) (h4 : mn ≤ mc) (h5 : B ≤ w.heap.size) (h6 : StrsAt w B A n words) (h7 : n ≤ cp) (h8 : n ≤ 8796093022208) (h9 : n ≤ 100000 ∨ ∃ x ∈ words, 24 < x.size) :
    Calls Tryd.prog 9 #[.agg #[.string b.id, .int .i64 b.valid, .int .i64 b.next, .int .i64 b.high, .slice WA wn wc, .slice MA mn mc], .int .i64 u, .int .i64 flags, .slice A n cp, .int .i64 how] w (RowsOut (flP b u flags words how) (flE b u flags words how) w) := by
  by_cases h0 : mbE b = 0
  · by_cases hok : flOk flags words how
    · exact flags_go ht h1 h2 h3 h4 h5 h6 h7 h8 h9 h0 rfl hok
    · have he : flE b u flags words how = 1 := by
        unfold flE
        rw [if_pos]
        refine Classical.byContradiction fun hn => hok ?_
        simp only [not_or, Classical.not_not, Bool.not_eq_false] at hn
        exact ⟨inB_out hn.2.1, hn.2.2.1, inB_out hn.2.2.2⟩
      have hp : flP b u flags words how = [] := by unfold flP RwW17.flP; rw [if_neg (by rw [he]; decide)]
      rw [hp, he]
      exact flags_arg ht h1 h2 h3 h4 h5 h6 h7 h8 h0 rfl hok
  · have he : flE b u flags words how = 1 := by unfold flE; rw [if_pos (.inl h0)]
    have hp : flP b u flags words how = [] := by unfold flP RwW17.flP; rw [if_neg (by rw [he]; decide)]
    rw [hp, he]
    exact flags_bad ht h1 h2 h3 h4 h5 h6 h7 h8 rfl h0
end Go.Proofs.YtnicijeeocknaaaDoor.RwApi2
