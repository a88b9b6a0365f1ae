/-
  FlagSplits: the walk.
-/
import Derived.Test.YtfpilhjjcjjelaaDoorG
import Derived.Test.YtfpilhjjcjjelaaDoorN
import Derived.Test.YtfpilhjjcjjelaaDoorTexts
import Derived.Deep.CutBlock
import Derived.Deep.RegionHeld3
import Derived.Deep.DeepCutAuto
namespace Go.Proofs.YtfpilhjjcjjelaaDoor.flagSplits
open Go.RowKit Go.Proofs.YtfpilhjjcjjelaaDoor.Kit Go.Proofs.YtfpilhjjcjjelaaDoor.Arg Go.Proofs.YtfpilhjjcjjelaaDoor.A Go.Proofs.YtfpilhjjcjjelaaDoor.B Go.Proofs.YtfpilhjjcjjelaaDoor.C Go.Proofs.YtfpilhjjcjjelaaDoor.D Go.Proofs.YtfpilhjjcjjelaaDoor.E Go.Proofs.YtfpilhjjcjjelaaDoor.F Go.Proofs.YtfpilhjjcjjelaaDoor.Few Go.Proofs.YtfpilhjjcjjelaaDoor.M Go.Proofs.YtfpilhjjcjjelaaDoor.N

def Yes (w : World) (e : Ending) (w' : World) : Prop := e = .returned (.bool true) ∧ Below w.heap.size w w'
theorem mod32 (a : Int) : ∃ m : Nat, m < 32 ∧ wrap64 ((IntKind.u64.wrap a).tmod 32) = (m : Int) := by
  have h0 : 0 ≤ IntKind.u64.wrap a := by rw [IntKind.wrap_u64]; omega
  have h1 : (IntKind.u64.wrap a).tmod 32 = IntKind.u64.wrap a % 32 := Int.tmod_eq_emod_of_nonneg h0
  refine ⟨(IntKind.u64.wrap a % 32).toNat, by omega, ?_⟩
  rw [h1]
  unfold wrap64
  omega
theorem shr_bit : ∀ m, m < 32 → ∀ k, k < 5 → (bits .and .i64 (((m : Nat) : Int) / (2 : Int) ^ k) 1 == 1) = tb m k := by decide +kernel
theorem pow_bit : ∀ k, k < 5 → wrap64 ((2 : Int) ^ k) = bitAt k := five (by decide +kernel) (by decide +kernel) (by decide +kernel) (by decide +kernel) (by decide +kernel)

/-- Two rows of the call's own, apart: the names and the words that are wanted. -/
def R (w wr : World) (v7 : Value) (n7 : Nat) (xs : List ByteArray) (v8 : Value) (n8 : Nat) (ys : List ByteArray) : Prop :=
  wr.ownsRow w.heap.size 9 1 v7 n7 (xs.map Value.string) ∧ wr.ownsRow w.heap.size 9 1 v8 n8 (ys.map Value.string) ∧ Below w.heap.size w wr ∧ (v7.ownBlock = none ∨ v7.ownBlock ≠ v8.ownBlock)

theorem R.grown {w wr w2 : World} {v7 v8 : Value} {n7 n8 : Nat} {xs ys : List ByteArray} {o : Obj} {row : Option Nat} (h : R w wr v7 n7 xs v8 n8 ys) (hg : (wr.alloc o).grownBy w2 row) (hr : ∀ g, row = some g → w.heap.size ≤ g) : Below w.heap.size w w2 :=
  (h.2.2.1.alloc h.2.2.1.size o).grown hg (by have := h.2.2.1.size; simp; omega) hr
theorem R.app7 {w wr w2 : World} {v7 v8 v' : Value} {n7 n8 : Nat} {xs ys : List ByteArray} {x : ByteArray} {o : Obj} (h : R w wr v7 n7 xs v8 n8 ys) (hown : w2.ownsRow w.heap.size 9 1 v' (n7 + 1) (xs.map Value.string ++ [x].map Value.string))
    (hg : (wr.alloc o).grownBy w2 v7.ownBlock) (hat : v'.ownBlock = v7.ownBlock ∨ v'.ownBlock = some (wr.alloc o).heap.size) : R w w2 v' (n7 + 1) (xs ++ [x]) v8 n8 ys := by
  have h8 : v8.ownBlock = none ∨ v8.ownBlock ≠ v7.ownBlock := by
    rcases h.2.2.2 with e | e
    · cases hv : v8.ownBlock with
      | none => exact .inl rfl
      | some g => rw [e]; exact .inr (by simp)
    · exact .inr (fun e' => e e'.symm)
  refine ⟨by rw [List.map_append]; exact hown, (h.2.1.alloc o).kept hg h8, h.grown hg (fun g e => (h.1.lt g e).1), ?_⟩
  rcases hat with e | e
  · rw [e]; exact h.2.2.2
  · rw [e]
    refine .inr (fun e' => ?_)
    have := (h.2.1.lt _ e'.symm).2
    simp at this
    omega
theorem R.app8 {w wr w2 : World} {v7 v8 v' : Value} {n7 n8 : Nat} {xs ys : List ByteArray} {x : ByteArray} {o : Obj} (h : R w wr v7 n7 xs v8 n8 ys) (hown : w2.ownsRow w.heap.size 9 1 v' (n8 + 1) (ys.map Value.string ++ [x].map Value.string))
    (hg : (wr.alloc o).grownBy w2 v8.ownBlock) (hat : v'.ownBlock = v8.ownBlock ∨ v'.ownBlock = some (wr.alloc o).heap.size) : R w w2 v7 n7 xs v' (n8 + 1) (ys ++ [x]) := by
  refine ⟨(h.1.alloc o).kept hg h.2.2.2, by rw [List.map_append]; exact hown, h.grown hg (fun g e => (h.2.1.lt g e).1), ?_⟩
  rcases hat with e | e
  · rw [e]; exact h.2.2.2
  · rw [e]
    refine .inr (fun e' => ?_)
    have := (h.1.lt _ e').2
    simp at this
    omega
theorem wdL_snoc {zs : List ByteArray} {j : Nat} {x : ByteArray} (h : zs[j]? = some x) : wdL (zs.take (j + 1)) = addW (wdL (zs.take j)) x := by
  obtain ⟨hl, rfl⟩ := List.getElem?_eq_some_iff.1 h
  unfold wdL
  rw [List.take_succ_eq_append_getElem hl, List.foldl_append]; rfl
theorem take_snoc {zs : List ByteArray} {j : Nat} {x : ByteArray} (h : zs[j]? = some x) : zs.take (j + 1) = zs.take j ++ [x] := by
  obtain ⟨hl, rfl⟩ := List.getElem?_eq_some_iff.1 h
  rw [List.take_succ_eq_append_getElem hl]
/-- The first j words are atoms. -/
def At (zs : List ByteArray) (j : Nat) : Prop := ∀ z ∈ zs.take j, atB z = true
theorem At.succ {zs : List ByteArray} {j : Nat} {x : ByteArray} (h : At zs j) (hx : zs[j]? = some x) (ha : atB x = true) : At zs (j + 1) := by
  intro z hz
  rw [take_snoc hx, List.mem_append, List.mem_singleton] at hz
  rcases hz with hz | rfl
  · exact h z hz
  · exact ha

theorem R.below {w wr w2 : World} {v7 v8 : Value} {n7 n8 : Nat} {xs ys : List ByteArray} (h : R w wr v7 n7 xs v8 n8 ys) (hb : Below wr.heap.size wr w2) : R w w2 v7 n7 xs v8 n8 ys :=
  ⟨h.1.kept (grown_below hb none) (by cases hv : v7.ownBlock <;> simp), h.2.1.kept (grown_below hb none) (by cases hv : v8.ownBlock <;> simp), h.2.2.1.trans (hb.mono h.2.2.1.size), h.2.2.2⟩
theorem add_add (a : Addr) (i j : Nat) : (a.add i).add j = a.add (i + j) := by
  unfold Addr.add
  by_cases hi : i = 0 <;> by_cases hj : j = 0 <;> simp [hi, hj, Nat.add_assoc]
theorem strs_drop {w : World} {base L cp k : Nat} {A : Option Addr} {xs : List ByteArray} (h : w.ownsRow base 9 1 (.slice A L cp) L (xs.map Value.string)) (hL : L ≤ cp) (hk : k ≤ L) :
    StrsAt w (if cp = k then A else A.map (fun x => x.add k)) (L - k) (xs.drop k) := by
  have hs := strsAt_own h
  refine ⟨by rw [List.length_drop, hs.1], fun hp => ?_⟩
  obtain ⟨ad, rfl, hlt, hc⟩ := hs.2 (by omega)
  rw [if_neg (by omega)]
  refine ⟨ad.add k, rfl, by rw [add_block]; exact hlt, fun j z hz => ?_⟩
  rw [add_add]
  exact hc _ z (by rw [← hz, List.getElem?_drop])
theorem strs_take {w : World} {base L cp k : Nat} {A : Option Addr} {xs : List ByteArray} (h : w.ownsRow base 9 1 (.slice A L cp) L (xs.map Value.string)) (hk : k ≤ L) : StrsAt w A k (xs.take k) := by
  have hs := strsAt_own h
  refine ⟨by rw [List.length_take, hs.1]; omega, fun hp => ?_⟩
  obtain ⟨ad, rfl, hlt, hc⟩ := hs.2 (by omega)
  refine ⟨ad, rfl, hlt, fun j z hz => ?_⟩
  rw [List.getElem?_take] at hz
  split at hz
  · exact hc _ z hz
  · cases hz
theorem empty_row (w : World) : ((w.alloc (.cells #[] 9)).drew).ownsRow w.heap.size 9 1 (.slice (some ⟨w.heap.size, 0, none⟩) 0 0) 0 (([] : List ByteArray).map Value.string) := by
  refine ⟨rfl, .inr ⟨w.heap.size, 0, #[], rfl, Nat.le_refl _, ?_, Nat.le_refl _, Nat.zero_le _, rfl, rfl⟩⟩
  show (w.heap.push _)[w.heap.size]? = _
  simp
/-- What Split answers of a row of the call's own. -/
def SR (ys : List ByteArray) (m c : Nat) (w : World) (e : Ending) (w' : World) : Prop :=
  ∃ (A9 : Option Addr) (cp9 : Nat), e = .returned (.tuple #[.int .i64 (m : Nat), .slice A9 c cp9, .bool true]) ∧ w'.ownsRow (w.heap.size + 1) 9 1 (.slice A9 c cp9) c ((wdL ys).map Value.string) ∧ Below w.heap.size w w'
theorem split_row {w : World} {base n cp m c : Nat} {A : Option Addr} {ys : List ByteArray} (hn : Names w) (h : w.ownsRow base 9 1 (.slice A n cp) n (ys.map Value.string)) (hsz : ∀ z ∈ ys, z.size ≤ maxLen) (hl : n ≤ 8796093022208)
    (hall : ∀ z ∈ ys, bitOf z ≠ 0 ∨ atB z = true) (hm : flL ys = m) (hc : (wdL ys).length = c) : Calls Tryd.prog 11 #[.slice A n cp] w (SR ys m c w) := by
  refine (split_any A n cp ys w hn (strsAt_own h) hsz hl hall).mono ?_
  rintro e w' ⟨v, rfl, hown, hb⟩
  obtain ⟨A9, cp9, rfl, _⟩ := own_slice hown
  rw [fl_all, wd_all, hm, hc] at *
  exact ⟨A9, cp9, rfl, hown, hb⟩
/-- The names and the words. -/
theorem all_good {m : Nat} {zs : List ByteArray} (hat : ∀ z ∈ zs, atB z = true) : ∀ z ∈ nm m 5 ++ zs, bitOf z ≠ 0 ∨ atB z = true := by
  intro z hz
  rcases List.mem_append.1 hz with h | h
  · exact .inl (nm_bit (Nat.le_refl _) z h)
  · exact .inr (hat z h)
theorem all_small {m : Nat} {zs : List ByteArray} (hsz : ∀ z ∈ zs, z.size ≤ maxLen) : ∀ z ∈ nm m 5 ++ zs, z.size ≤ maxLen := by
  intro z hz
  rcases List.mem_append.1 hz with h | h
  · unfold nm at h
    obtain ⟨k, _, rfl⟩ := List.mem_map.1 h
    exact nameAt_len k
  · exact hsz z h
theorem mem_turn {ys : List ByteArray} {k : Nat} {z : ByteArray} (h : z ∈ ys.drop k ++ ys.take k) : z ∈ ys := by
  rcases List.mem_append.1 h with h | h
  · exact List.mem_of_mem_drop h
  · exact List.mem_of_mem_take h
theorem flL_all {m : Nat} {zs : List ByteArray} (hm : m < 32) (hat : ∀ z ∈ zs, atB z = true) : flL (nm m 5 ++ zs) = m := by
  rw [flL_append, flL_names m hm, flL_words zs hat, Nat.or_zero]
/-- Behind j words. -/
def REL (w : World) (m q n : Nat) (zs : List ByteArray) (s7 s8 s50 : Value) (wx : World) : Prop :=
  ∃ (j c8 : Nat) (v7 v8 : Value), v7 = s7 ∧ v8 = s8 ∧ j ≤ n ∧ s50 = .int .i64 j ∧ c8 ≤ j ∧ Hid (At zs j) ∧ Hid (R w wx v7 (q + j) (nm m 5 ++ zs.take j) v8 c8 (wdL (zs.take j)))
set_option maxHeartbeats 8000000 in
set_option maxRecDepth 100000 in
theorem walk (a : Int) (A : Option Addr) (n cp : Nat) (zs : List ByteArray) (turn : Int) (w : World) (hn : Names w) (hz : StrsAt w A n zs) (hsz : ∀ z ∈ zs, z.size ≤ maxLen) (hl : n ≤ 8796093021952) :
    Calls Tryd.prog 3 #[.int .i64 a, .slice A n cp, .int .i64 turn] w (Yes w) := by
  have K := few_any A n cp zs w hz (by unfold maxLen; omega)
  have HN := Lib.hid hn
  have HZ := Lib.hid hz
  have HSZ := Lib.hid hsz
  have HK := Lib.hid K
  have hzl := hz.1
  have HZL := Lib.hid hzl
  clear K hn hz hsz hzl
  obtain ⟨m, hm32, hm⟩ := mod32 a
  have HM := Lib.hid hm
  clear hm
  go_enter Tryd.func3, Tryd.ntmps3
  go_wp2_with fail
  refine HK.out.mono ?_
  rintro e w' ⟨f, rfl, rfl⟩
  by_cases hpos : 0 < f
  · have HAW := Lib.hid (G.awake w HN.out)
    go_wp2_with (go_at_call 8; refine HAW.out.mono ?_; rintro e w' ⟨rfl, hb9⟩)
    go_ret
    exact ⟨rfl, hb9⟩
  · go_wp2_with fail
    rw [HM.out]
    go_loopw [7, 31] (fun s7 s31 wr => ∃ (k : Nat) (v : Value), v = s7 ∧ k ≤ 5 ∧ s31 = .int .i64 k ∧ Hid (OW w wr (nm m k).length v (nm m k))) (fun _ s31 _ => 5 - (intOf s31).toNat)
    case atStart => exact ⟨0, _, rfl, Nat.zero_le _, rfl, World.ownsRow_nil _ _ _ _, Below.refl _ _⟩
    case round =>
      obtain ⟨k, v, rfl, hk, rfl, HO⟩ := hrel
      by_cases hlt : k < 5
      · have hb := shr_bit m hm32 k hlt
        have hp := pow_bit k hlt
        cases hq : tb m k with
        | true =>
          rw [hq] at hb
          have hnm := nm_yes hq
          have C := name_any (bitAt k) wr (HN.out.below HO.out.2 HN.out.size)
          rw [nameOf_at k hlt] at C
          obtain ⟨x, hx⟩ : ∃ x, x = nameAt k := ⟨_, rfl⟩
          obtain ⟨q, hqn⟩ : ∃ q, q = (nm m k).length := ⟨_, rfl⟩
          have hm5 : q ≤ 5 := by have := nm_le m k; omega
          rw [← hx] at C hnm
          have HC := Lib.hid C
          have HQ := Lib.hid hqn
          have HO' := Lib.hid (show OW w wr q v (nm m k) by rw [hqn]; exact HO.out)
          have HNM := Lib.hid hnm
          have HP := Lib.hid hp
          clear hq hnm hqn HO C hx hp
          go_wp2_with fail
          rw [HP.out]
          refine HC.out.mono ?_
          rintro e w2 ⟨rfl, hb2⟩
          have hO2 : OW w w2 q v (nm m k) := ⟨HO'.out.1.kept (grown_below hb2 none) (by cases hv : v.ownBlock <;> simp), HO'.out.2.trans (hb2.mono HO'.out.2.size)⟩
          have HO2 := Lib.hid hO2
          have hws := hO2.2.size
          clear hb2 hO2 HO' HC
          go_wp2_with (at_builtin; refine wpList_app rfl _ _ rfl rfl rfl (HO2.out.1.alloc _) (strsAt_new _ _ (by simp)) (by omega) (by simp; omega) ?_; intro v' w3 hown3 hg3 hat3)
          have s2 := hg3.size
          simp at s2
          go_roundw
          case rel =>
            refine ⟨k + 1, v', rfl, by omega, by go_num, ?_, ?_⟩
            · rw [HNM.out, List.length_append, ← HQ.out, List.map_append]
              exact hown3
            · exact (HO2.out.2.alloc hws _).grown hg3 (by simp; omega) (fun g e => (HO2.out.1.lt g e).1)
          case measure => simp [intOf]; omega
        | false =>
          rw [hq] at hb
          have hnm := nm_no hq
          have HNM := Lib.hid hnm
          clear hq hnm hp
          go_wp2_with fail
          go_roundw
          case rel => exact ⟨k + 1, v, rfl, by omega, by go_num, by rw [HNM.out]; exact HO.out⟩
          case measure => simp [intOf]; omega
      · obtain rfl : k = 5 := by omega
        obtain ⟨q, hqn⟩ : ∃ q, q = (nm m 5).length := ⟨_, rfl⟩
        have hq5 : q ≤ 5 := by have := nm_le m 5; omega
        have HQ := Lib.hid hqn
        have hR : R w wr v (q + 0) (nm m 5 ++ zs.take 0) (.slice none 0 0) 0 (wdL (zs.take 0)) := by
          refine ⟨by rw [List.take_zero, List.append_nil, hqn]; exact HO.out.1, World.ownsRow_nil _ _ _ _, HO.out.2, ?_⟩
          cases hv : v.ownBlock <;> simp [Value.ownBlock]
        have HR := Lib.hid hR
        clear hqn hR hlt HO
        go_wp2_with fail
        rw [show ((5 : Nat) : Int) = 5 from rfl]
        obtain ⟨w0, rfl⟩ : ∃ w0 : World, w0 = wr := ⟨_, rfl⟩
        go_loopw [7, 8, 50] (fun s7 s8 s50 wx => REL w m q n zs s7 s8 s50 wx) (fun _ _ s50 _ => n - (intOf s50).toNat)
        case atStart => exact ⟨0, 0, _, _, rfl, rfl, Nat.zero_le _, rfl, Nat.le_refl _, (by intro z hz; simp at hz), HR⟩
        case round =>
          clear HR
          obtain ⟨j, c8, v7, v8, rfl, rfl, hj, rfl, hc8, HAT, HR⟩ := hrel
          by_cases hlt : j < n
          · obtain ⟨ad, x, rfl, hx, hc1⟩ := HZ.out.at_ HR.out.2.2.1 (Nat.le_refl _) hlt
            have HX := Lib.hid hx
            clear hx
            have C := may_any x wr
            cases ha : atB x with
            | false =>
              rw [ha] at C
              have HC := Lib.hid C
              have HAW := Lib.hid (G.awake wr (HN.out.below HR.out.2.2.1 HN.out.size))
              clear C ha
              go_wp2_with (first
                | (go_at_call 10; refine HC.out.mono ?_; rintro e w' ⟨rfl, rfl⟩)
                | (go_at_call 8; refine HAW.out.mono ?_; rintro e w' ⟨rfl, hb9⟩))
              go_ret
              exact ⟨rfl, HR.out.2.2.1.trans (hb9.mono HR.out.2.2.1.size)⟩
            | true =>
              rw [ha] at C
              have HC := Lib.hid C
              have HAT' := Lib.hid (HAT.out.succ HX.out ha)
              clear C ha
              have hws := HR.out.2.2.1.size
              obtain ⟨ws, hwse⟩ : ∃ ws, ws = wdL (zs.take j) := ⟨_, rfl⟩
              have HWS := Lib.hid hwse
              have hR1 := HR.out
              rw [← hwse] at hR1
              have HR1 := Lib.hid hR1
              obtain ⟨A8, cp8, hv8, hcc⟩ := own_slice hR1.2.1
              subst hv8
              clear hR1 hwse HR
              go_wp2_with (first
                | (go_at_call 10; refine HC.out.mono ?_; rintro e w' ⟨rfl, rfl⟩)
                | (at_builtin; refine wpList_app rfl _ _ rfl rfl rfl (HR1.out.1.alloc _) (strsAt_new _ _ (by simp)) (by omega) (by simp; omega) ?_; intro v' w2 hown2 hg2 hat2))
              have HR2 := Lib.hid (HR1.out.app7 hown2 hg2 hat2)
              clear hown2 hg2 hat2 HR1
              have hs8 := strsAt_own HR2.out.2.1
              have HS8 := Lib.hid hs8
              have hcl := hs8.1
              have HCL := Lib.hid hcl
              clear hs8 hcl
              obtain ⟨w0', rfl⟩ : ∃ w0' : World, w0' = wr := ⟨_, rfl⟩
              go_loop [12, 64] (fun s12 s64 => ∃ (i : Nat) (b : Bool), i ≤ c8 ∧ s64 = .int .i64 i ∧ s12 = .bool b ∧ Hid (b = decide (x ∈ ws.take i))) (fun _ s64 => c8 - (intOf s64).toNat)
              case atStart => exact ⟨0, false, Nat.zero_le _, rfl, rfl, (show false = decide (x ∈ ws.take 0) by simp)⟩
              case round =>
                obtain ⟨i, b, hi, rfl, rfl, HBB⟩ := hrel
                by_cases hlt8 : i < c8
                · obtain ⟨ad8, z, rfl, hz8, hc8'⟩ := HS8.out.at_ (Below.refl _ _) (Nat.le_refl _) hlt8
                  have HZ8 := Lib.hid (take_snoc hz8)
                  clear hz8
                  cases b with
                  | true =>
                    go_wp2_with fail
                    go_round
                    case rel => exact ⟨i + 1, true, by omega, by go_num, rfl, by
                      have h := HBB.out
                      have h' : x ∈ ws.take i := of_decide_eq_true h.symm
                      rw [HZ8.out]
                      exact (decide_eq_true (List.mem_append_left _ h')).symm⟩
                    case measure => simp [intOf]; omega
                  | false =>
                    obtain ⟨bb, hbb, hbe⟩ : ∃ bb : Bool, (z.toList == x.toList) = bb ∧ bb = decide (z = x) := by
                      by_cases e : z = x
                      · exact ⟨true, by rw [e]; simp, (decide_eq_true e).symm⟩
                      · exact ⟨false, flagTexts.toList_ne e, (decide_eq_false e).symm⟩
                    have HBE := Lib.hid hbe
                    clear hbe
                    go_wp2_with fail
                    go_round
                    case rel => exact ⟨i + 1, bb, by omega, by go_num, rfl, by
                      have h := HBB.out
                      have h' : x ∉ ws.take i := of_decide_eq_false h.symm
                      rw [HZ8.out, HBE.out]
                      by_cases e : z = x
                      · rw [decide_eq_true e]
                        exact (decide_eq_true (by simp [e])).symm
                      · rw [decide_eq_false e]
                        refine (decide_eq_false ?_).symm
                        intro hm
                        rcases List.mem_append.1 hm with hm | hm
                        · exact h' hm
                        · simp at hm; exact e hm.symm⟩
                    case measure => simp [intOf]; omega
                · obtain rfl : i = c8 := by omega
                  have hbw : b = decide (x ∈ ws) := by
                    have h := HBB.out
                    rw [List.take_of_length_le (by rw [HCL.out]; omega)] at h
                    exact h
                  have HBW := Lib.hid hbw
                  clear hbw HBB
                  have hws2 := HR2.out.2.2.1.size
                  cases b with
                  | true =>
                    have hsame : wdL (zs.take (j + 1)) = ws := by
                      have h' : x ∈ ws := of_decide_eq_true HBW.out.symm
                      rw [wdL_snoc HX.out, ← HWS.out]
                      unfold addW
                      rw [if_neg (by simpa using atom_bit (HAT'.out x (by rw [take_snoc HX.out]; simp))), if_pos h']
                    have HSAME := Lib.hid hsame
                    clear hsame
                    go_wp2_with fail
                    go_roundw
                    case rel => exact ⟨j + 1, i, v', _, rfl, rfl, by omega, by go_num, by omega, HAT', by rw [HSAME.out, take_snoc HX.out, ← List.append_assoc]; exact HR2.out⟩
                    case measure => simp [intOf]; omega
                  | false =>
                    have hnew : wdL (zs.take (j + 1)) = ws ++ [x] := by
                      have h' : x ∉ ws := of_decide_eq_false HBW.out.symm
                      rw [wdL_snoc HX.out, ← HWS.out]
                      unfold addW
                      rw [if_neg (by simpa using atom_bit (HAT'.out x (by rw [take_snoc HX.out]; simp))), if_neg h']
                    have HNEW := Lib.hid hnew
                    clear hnew
                    go_wp2_with (at_builtin; refine wpList_app rfl _ _ rfl rfl rfl (HR2.out.2.1.alloc _) (strsAt_new _ _ (by simp)) (by omega) (by simp; omega) ?_; intro v'' w3 hown3 hg3 hat3)
                    have HR3 := Lib.hid (HR2.out.app8 hown3 hg3 hat3)
                    clear hown3 hg3 hat3
                    go_roundw
                    case rel => exact ⟨j + 1, i + 1, v', v'', rfl, rfl, by omega, by go_num, by omega, HAT', by rw [HNEW.out, take_snoc HX.out, ← List.append_assoc]; exact HR3.out⟩
                    case measure => simp [intOf]; omega
          · obtain rfl : j = n := by omega
            have hzn : zs.take j = zs := List.take_of_length_le (by rw [HZL.out]; omega)
            have h1 := HR.out
            have h2 := HAT.out
            unfold At at h2
            rw [hzn] at h1 h2
            have HR1 := Lib.hid h1
            have HAT1 := Lib.hid h2
            obtain ⟨A7, cp7, rfl, hc7⟩ := own_slice h1.1
            obtain ⟨A8, cp8, rfl, hcc8⟩ := own_slice h1.2.1
            obtain ⟨w1, rfl⟩ : ∃ w1 : World, w1 = wr := ⟨_, rfl⟩
            clear h1 h2 hzn HR HAT hlt
            obtain ⟨L, hL⟩ : ∃ L, L = q + j := ⟨_, rfl⟩
            have hL1 : L ≤ 8796093021957 := by omega
            rw [← hL] at hc7 HR1
            rw [← hL]
            have HLQ := Lib.hid hL
            clear hL
            obtain ⟨kk, hkL, hkk⟩ : ∃ kk : Nat, kk ≤ L ∧ wrap64 ((IntKind.u64.wrap turn).tmod ((L : Int) + 1)) = (kk : Int) := by
              have h0 : 0 ≤ IntKind.u64.wrap turn := by rw [IntKind.wrap_u64]; omega
              have h1 : (IntKind.u64.wrap turn).tmod ((L : Int) + 1) = IntKind.u64.wrap turn % ((L : Int) + 1) := Int.tmod_eq_emod_of_nonneg h0
              have h2 := Int.emod_nonneg (IntKind.u64.wrap turn) (show ((L : Int) + 1) ≠ 0 by omega)
              have h3 := Int.emod_lt_of_pos (IntKind.u64.wrap turn) (show 0 < ((L : Int) + 1) by omega)
              refine ⟨(IntKind.u64.wrap turn % ((L : Int) + 1)).toNat, by omega, ?_⟩
              rw [h1]
              unfold wrap64
              omega
            have HKK := Lib.hid hkk
            clear hkk
            go_upto_region 27 with fail
            rw [HKK.out]
            have k1 : (0 : Int) ≤ (kk : Int) := by omega
            have k2 : (kk : Int) ≤ (L : Int) := by omega
            have k3 : (L : Int) ≤ (cp7 : Int) := by omega
            have k4 : (kk : Int) ≤ (cp7 : Int) := by omega
            have hbe : Below w1.heap.size w1 (w1.alloc (.cells #[] 9)).drew := ((Below.refl _ _).alloc (Nat.le_refl _) _).drew
            have hbs := hbe.size
            have HC8 := Lib.hid (show (wdL zs).length = c8 by have := HR1.out.2.1.1; simpa using this)
            have HBE := Lib.hid hbe
            have ER := Lib.hid (empty_row w1)
            have SD := Lib.hid (F.StrsAt.below (strs_drop HR1.out.1 hc7 hkL) hbe)
            have ST1 := Lib.hid (strs_take HR1.out.1 hkL)
            clear hbe
            go_cut [16, 17, 18] (fun s16 s17 s18 wx => ∃ (A9 : Option Addr) (cp9 : Nat), s16 = .int .i64 (m : Nat) ∧ s17 = .slice A9 c8 cp9 ∧ s18 = .bool true ∧ Hid (Below w1.heap.size w1 wx))
            case first =>
              go_region_held3 (fun _ => True) (trivial) (first
                | (refine step_app rfl (.tmp 91) (.tmp 94) rfl (c := cp7 - kk) (by simp [Act.eval]) (by simp [Act.eval]) ER.out SD.out (by omega) hbs ?_
                   intro v1 w2 hown1 hg1 hat1)
                | (refine step_app rfl (.tmp 95) (.tmp 98) rfl (c := cp7) (by simp [Act.eval]) (by simp [Act.eval]) hown1 (F.StrsAt.below ST1.out (HBE.out.grown hg1 hbs (fun g e => (ER.out.lt g e).1))) (by omega) (Nat.le_trans hbs hg1.size) ?_
                   intro v2 w3 hown2 hg2 hat2
                   rw [show 0 + (L - kk) + kk = L by omega] at hown2
                   obtain ⟨A2, cp2, hv2, hcc2⟩ := own_slice hown2
                   subst hv2
                   have hb3 : Below w1.heap.size w1 w3 := (HBE.out.grown hg1 hbs (fun g e => (ER.out.lt g e).1)).grown hg2 (Nat.le_trans hbs hg1.size) (fun g e => (hown1.lt g e).1)
                   have HC := Lib.hid (split_row (ys := (nm m 5 ++ zs).drop kk ++ (nm m 5 ++ zs).take kk) (m := m) (c := c8) ((HN.out.below HR1.out.2.2.1 HN.out.size).below hb3 (Nat.lt_of_lt_of_le HN.out.size HR1.out.2.2.1.size))
                     (by rw [List.map_append]; exact hown2) (fun z hz => all_small HSZ.out z (mem_turn hz)) (by omega) (fun z hz => all_good HAT1.out z (mem_turn hz))
                     (by rw [flL_turn]; exact flL_all hm32 HAT1.out) (by rw [wdL_turn, wdL_names]; exact HC8.out))
                   have HB3 := Lib.hid hb3)
                | (go_at_call 11
                   refine HC.out.mono ?_
                   rintro e w4 ⟨A9, cp9, rfl, hown9, hb9⟩
                   dsimp only))
              go_step
              go_step
              go_meet
              exact ⟨A9, cp9, rfl, rfl, rfl, HB3.out.trans (hb9.mono HB3.out.size)⟩
            case rest =>
              obtain ⟨A9, cp9, rfl, rfl, rfl, HBX⟩ := hcut
              have HR2 := Lib.hid (HR1.out.below HBX.out)
              have HC := Lib.hid (split_row (ys := nm m 5 ++ zs) (m := m) (c := c8) (HN.out.below HR2.out.2.2.1 HN.out.size) HR2.out.1 (all_small HSZ.out) (by omega) (all_good HAT1.out) (flL_all hm32 HAT1.out) (by rw [wdL_names]; exact HC8.out))
              clear HR1 ER SD ST1 HBE
              go_wp2_with fail
              refine HC.out.mono ?_
              rintro e w5 ⟨A10, cp10, rfl, hown10, hb5⟩
              have HR5 := Lib.hid (HR2.out.below hb5)
              rw [wdL_names] at hown10
              have HX5 := Lib.hid (strsAt_own hown10)
              have HW5 := Lib.hid (strsAt_own HR5.out.2.1)
              clear hown10 hb5 HC HR2 HBX
              go_wp2_with fail
              obtain ⟨w6, rfl⟩ : ∃ w6 : World, w6 = w5 := ⟨_, rfl⟩
              go_loopw [142] (fun s142 wx => ∃ i : Nat, i ≤ c8 ∧ s142 = .int .i64 i ∧ Hid (Drawn w6 wx)) (fun s142 _ => c8 - (intOf s142).toNat)
              case atStart => exact ⟨0, Nat.zero_le _, rfl, Drawn.refl w6⟩
              case round =>
                obtain ⟨i, hi, rfl, HD⟩ := hrel
                by_cases hlt : i < c8
                · obtain ⟨ad1, x1, rfl, hx1, hcx1⟩ := HX5.out.at_ (HD.out.below _) (Nat.le_refl _) hlt
                  obtain ⟨ad2, x2, rfl, hx2, hcx2⟩ := HW5.out.at_ (HD.out.below _) (Nat.le_refl _) hlt
                  rw [hx1] at hx2
                  injection hx2 with hx2
                  subst hx2
                  have g1 : (0 : Int) ≤ (i : Int) := by omega
                  have g2 : (i : Int) < (c8 : Int) := by omega
                  have g3 : (x1.toList != x1.toList) = false := by simp
                  clear hx1
                  go_wp2_with fail
                  go_quiet (fail)
                  go_wp2_with fail
                  go_roundw
                  case rel => exact ⟨i + 1, by omega, by go_num, HD.out.drewN _⟩
                  case measure => simp [intOf]; omega
                · have hb : Below w.heap.size w wr := HR5.out.2.2.1.trans ((HD.out.below _).mono HR5.out.2.2.1.size)
                  have HAW := Lib.hid (G.awake wr (HN.out.below hb HN.out.size))
                  have HB := Lib.hid hb
                  clear hb
                  go_wp2_with (go_at_call 8; refine HAW.out.mono ?_; rintro e w' ⟨rfl, hb9⟩)
                  go_ret
                  exact ⟨rfl, HB.out.trans (hb9.mono HB.out.size)⟩
end Go.Proofs.YtfpilhjjcjjelaaDoor.flagSplits
