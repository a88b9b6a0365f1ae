/-
  What the calls of package row answer, in the words that the walks use.
-/
import Derived.Test.YtmkbmdoglcimbaaDoorRwKit
import Derived.Test.YtmkbmdoglcimbaaDoorRwW11
import Derived.Test.YtmkbmdoglcimbaaDoorRwW12
import Derived.Test.YtmkbmdoglcimbaaDoorRwAw
namespace Go.Proofs.YtmkbmdoglcimbaaDoor.RwApi
open Go.RowKit Go.Proofs.YtmkbmdoglcimbaaDoor.BxD Go.Proofs.YtmkbmdoglcimbaaDoor.BxKit Go.Proofs.YtmkbmdoglcimbaaDoor.RwD Go.Proofs.YtmkbmdoglcimbaaDoor.RwM Go.Proofs.YtmkbmdoglcimbaaDoor.RwF Go.Proofs.YtmkbmdoglcimbaaDoor.RwKit

/-- What awake of layer 7 asks of the world: the table of the digits, the table of the flags. -/
def Tab (w : World) : Prop := RwW15.Tab w
theorem Tab.below {w w' : World} (h : Tab w) (hb : Below w.heap.size w w') : Tab w' := RwW15.Tab.below h hb (Nat.le_refl _)
theorem awake {w : World} (h : Tab w) : Calls Tryd.prog 10 #[] w fun e w' => e = .returned (.bool true) ∧ Below w.heap.size w w' := RwAw.awake h
theorem apply_any {w : World} {b : Box} {kd ru rm u md d fl : Int} {id tx t : ByteArray} {ks : List Int} {WA MA K : Option Addr} {wn wc mn mc kn kc B : Nat} (h1 : StrsAt w B WA wn b.words) (h2 : MsgsAt w B MA mn b.msgs) (h3 : wn ≤ wc) (h4 : mn ≤ mc) (_ : b.id.size ≤ 140737488355328) (h5 : B ≤ w.heap.size)
    (hk : IntsAt w B K kn ks) (h6 : kn ≤ kc) (z1 : t.size ≤ 140737488355328) (z2 : id.size ≤ 140737488355328) (z3 : tx.size ≤ 140737488355328) (h7 : kn ≤ 1000000) :
    Calls Tryd.prog 23 #[.agg #[.string b.id, .int .i64 b.valid, .int .i64 b.next, .int .i64 b.high, .slice WA wn wc, .slice MA mn mc], .agg #[.int .i64 kd, .int .i64 ru, .int .i64 rm, .int .i64 u, .int .i64 md, .int .i64 d, .string id, .int .i64 fl, .slice K kn kc, .string tx, .string t]] w
      (BoxOut (ap b ⟨kd, ru, rm, ⟨u, md, d, id, fl, ks, tx⟩, t⟩).1 (ap b ⟨kd, ru, rm, ⟨u, md, d, id, fl, ks, tx⟩, t⟩).2 w) := by
  have hl := hk.len
  subst hl
  exact RwW11.apply_row (r := ⟨kd, ru, rm, ⟨u, md, d, id, fl, ks, tx⟩, t⟩) h1 h2 h3 h4 h5 hk h6 z2 z3 z1 h7
theorem all_any {w : World} {b : Box} {l : List Row} {WA MA A : Option Addr} {wn wc mn mc n cp B : Nat} (h1 : StrsAt w B WA wn b.words) (h2 : MsgsAt w B MA mn b.msgs) (h3 : wn ≤ wc) (h4 : mn ≤ mc) (_ : b.id.size ≤ 140737488355328) (h5 : B ≤ w.heap.size) (h6 : RowsAt w B A n l) (h7 : n ≤ cp) (h8 : ∀ r ∈ l, r.msg.keys.length ≤ 1000000) :
    Calls Tryd.prog 19 #[.agg #[.string b.id, .int .i64 b.valid, .int .i64 b.next, .int .i64 b.high, .slice WA wn wc, .slice MA mn mc], .slice A n cp] w (BoxOut (allP b l).1 (allP b l).2 w) := RwW10.all_any h1 h2 h3 h4 h5 h6 h7 h8
abbrev cutP := RwW12.cutP
theorem cut_any {w : World} {b : Box} {l : List Int} {WA MA A : Option Addr} {wn wc mn mc n cp B : Nat} (h1 : StrsAt w B WA wn b.words) (h2 : MsgsAt w B MA mn b.msgs) (h3 : wn ≤ wc) (h4 : mn ≤ mc) (_ : b.id.size ≤ 140737488355328) (h5 : B ≤ w.heap.size) (h6 : IntsAt w B A n l) (h7 : n ≤ cp) :
    Calls Tryd.prog 15 #[.agg #[.string b.id, .int .i64 b.valid, .int .i64 b.next, .int .i64 b.high, .slice WA wn wc, .slice MA mn mc], .slice A n cp] w (RowsOut (cutP b l) (cutE b l) w) := RwW12.cut_any h1 h2 h3 h4 h5 h6 h7
theorem cut_few {b : Box} {l : List Int} : ∀ r ∈ cutP b l, r.msg.keys.length ≤ 1000000 := fun r hr => by
  unfold cutP RwW12.cutP at hr
  split at hr
  · rw [(RwW12.cutG_keys _ _ r hr).1]; decide
  · simp at hr
end Go.Proofs.YtmkbmdoglcimbaaDoor.RwApi
