/-
  The two old forms as data (c: changes are said): what its bytes are, what bytes are read as: pure.
-/
import Derived.Test.YtchlbbndfhibgaaGreatDoorJ1
import Derived.Test.YtchlbbndfhibgaaGreatDoorK9
set_option linter.unusedVariables false
set_option linter.unusedSimpArgs false
namespace Go.Proofs.YtchlbbndfhibgaaGreatDoor.OlD
open Go.RowKit Go.Proofs.YtchlbbndfhibgaaGreatDoor.BxD Go.Proofs.YtchlbbndfhibgaaGreatDoor.BxOp Go.Proofs.YtchlbbndfhibgaaGreatDoor.PkB Go.Proofs.YtchlbbndfhibgaaGreatDoor.PkC Go.Proofs.YtchlbbndfhibgaaGreatDoor.PkD Go.Proofs.YtchlbbndfhibgaaGreatDoor.PkF Go.Proofs.YtchlbbndfhibgaaGreatDoor.PkG Go.Proofs.YtchlbbndfhibgaaGreatDoor.PkK

/-- Keys as bits: those below 32. -/
def maskN (ks : List Int) : Nat := ks.foldl (fun a k => if k < 32 then a ||| 2 ^ k.toNat else a) 0
/-- Bits as keys. -/
def keysN (n : Nat) : List Int := ((List.range 32).filter fun k => n.testBit k).map fun k : Nat => (k : Int)
/-- The bytes of a message, of a box. -/
def ch (c : Bool) (x : Int) : List UInt8 := if c then fx (mx x) else []
def em (c : Bool) (m : Msg) : List UInt8 := fx (mx m.uid) ++ (ch c m.mod ++ (fx (mx m.date) ++ ([(m.flags.toNat % 256).toUInt8] ++ (fx (maskN m.keys) ++ (fx m.text.size ++ m.text.data.toList)))))
def mk (c : Bool) : List UInt8 := [77, 66, if c then 50 else 49]
def ebR (c : Bool) (b : Box) : List UInt8 := fx (mx b.valid) ++ (fx (mx b.next) ++ (ch c b.high ++ (fx (min b.words.length 32) ++ ((b.words.take 32).flatMap tx ++ (fx b.msgs.length ++ b.msgs.flatMap (em c))))))
def eb (c : Bool) (b : Box) : List UInt8 := mk c ++ ebR c b
/-- What the form knows of a box. -/
def on1 (c : Bool) (x : Int) : Int := if c then x else 1
def pm (c : Bool) (id : ByteArray) (m : Msg) : Msg := ⟨m.uid, on1 c m.mod, m.date, ownT id m.uid, m.flags, m.keys.filter (fun k => decide (k < 32)), m.text⟩
def pb (c : Bool) (b : Box) : Box := ⟨b.id, b.valid, b.next, on1 c b.high, b.words.take 32, b.msgs.map (pm c b.id)⟩
def nB : Box := ⟨⟨#[]⟩, 0, 0, 0, [], []⟩

/-! What bytes are read as: what is left, the error, whether there was too much. -/
abbrev St := List UInt8 × Nat × Bool
def fixS (s : St) : Nat × St := if s.2.1 ≠ 0 then (0, s) else if s.1.length < 4 then (0, (s.1, 2, s.2.2)) else (be (s.1.take 4), (s.1.drop 4, 0, s.2.2))
def byteS (s : St) : Nat × St := if s.2.1 ≠ 0 then (0, s) else if s.1.length < 1 then (0, (s.1, 2, s.2.2)) else (be (s.1.take 1), (s.1.drop 1, 0, s.2.2))
def txtS (m : Int) (s : St) : ByteArray × St := if s.2.1 ≠ 0 then (⟨#[]⟩, s) else (⟨(tz s.1 m).1.toArray⟩, ((tz s.1 m).2.1, (tz s.1 m).2.2, s.2.2))
def cntS (m : Nat) (s : St) : Nat × St := if m < (fixS s).1 then (0, ((fixS s).2.1, (fixS s).2.2.1, true)) else fixS s
def itS {α : Type} (f : St → α × St) : Nat → St → List α × St
  | 0, s => ([], s)
  | k + 1, s => ((itS f k s).1 ++ [(f (itS f k s).2).1], (f (itS f k s).2).2)
def byteU (s : St) : UInt8 × St := ((byteS s).1.toUInt8, (byteS s).2)
def strS (s : St) : ByteArray × St := (⟨(itS byteU (cntS 300 s).1 (cntS 300 s).2).1.toArray⟩, (itS byteU (cntS 300 s).1 (cntS 300 s).2).2)
def chS (c : Bool) (s : St) : Nat × St := if c then fixS s else (1, s)
def msgS (c : Bool) (id : ByteArray) (s : St) : Msg × St :=
  let u := fixS s
  let o := chS c u.2
  let d := fixS o.2
  let f := byteS d.2
  let k := fixS f.2
  let t := strS k.2
  (⟨u.1, o.1, d.1, ownT id u.1, f.1, keysN k.1, t.1⟩, t.2)
def boxS (c : Bool) (id : ByteArray) (s : St) : Box × St :=
  let v := fixS s
  let n := fixS v.2
  let h := chS c n.2
  let k := cntS 32 h.2
  let w := itS (txtS 24) k.1 k.2
  let e := cntS 60 w.2
  let m := itS (msgS c id) e.1 e.2
  (⟨id, v.1, n.1, h.1, w.1, m.1⟩, m.2)
def firstS (s : St) : Nat := if s.2.2 then 3 else s.2.1
def parseS (c : Bool) (l : List UInt8) (id : ByteArray) : Box × Int :=
  if l.take 3 = mk c then
    if firstS (boxS c id (l.drop 3, 0, false)).2 ≠ 0 then (nB, firstS (boxS c id (l.drop 3, 0, false)).2)
    else if 0 < (boxS c id (l.drop 3, 0, false)).2.1.length ∨ mbE (boxS c id (l.drop 3, 0, false)).1 ≠ 0 then (nB, 3)
    else ((boxS c id (l.drop 3, 0, false)).1, 0)
  else (nB, 3)

theorem fx_len (m : Nat) : (fx m).length = 4 := rfl
theorem fix_fx {m : Nat} (h : m < 4294967296) (rest : List UInt8) (ov : Bool) : fixS (fx m ++ rest, 0, ov) = (m, (rest, 0, ov)) := by
  unfold fixS
  rw [if_neg (by simp), if_neg (by rw [List.length_append, fx_len]; omega)]
  simp only
  rw [List.take_left' (fx_len m), List.drop_left' (fx_len m), be_fx, Nat.mod_eq_of_lt h]
theorem ch_fx {c : Bool} {x : Int} (h : mx x < 4294967296) (rest : List UInt8) (ov : Bool) : chS c (ch c x ++ rest, 0, ov) = (if c then mx x else 1, (rest, 0, ov)) := by
  cases c
  · rfl
  · exact fix_fx h rest ov
theorem fix_bad {s : St} (h : s.2.1 ≠ 0) : fixS s = (0, s) := by unfold fixS; rw [if_pos h]
theorem byte_bad {s : St} (h : s.2.1 ≠ 0) : byteS s = (0, s) := by unfold byteS; rw [if_pos h]
theorem txt_bad {s : St} (m : Int) (h : s.2.1 ≠ 0) : txtS m s = (⟨#[]⟩, s) := by unfold txtS; rw [if_pos h]
theorem cnt_bad {s : St} (m : Nat) (h : s.2.1 ≠ 0) : cntS m s = (0, s) := by unfold cntS; rw [fix_bad h, if_neg (by simp)]
theorem ch_bad {c : Bool} {s : St} (h : s.2.1 ≠ 0) : chS c s = (if c then 0 else 1, s) := by cases c; · rfl
                                                                                             · exact fix_bad h
theorem byte_one (c : UInt8) (rest : List UInt8) (ov : Bool) : byteS ([c] ++ rest, 0, ov) = (c.toNat, (rest, 0, ov)) := by
  unfold byteS
  rw [if_neg (by simp), if_neg (by simp)]
  simp [be]
theorem cnt_fx {m n : Nat} (h : m ≤ n) (hn : n < 4294967296) (rest : List UInt8) (ov : Bool) : cntS n (fx m ++ rest, 0, ov) = (m, (rest, 0, ov)) := by
  unfold cntS
  rw [fix_fx (by omega), if_neg (by simp; omega)]
theorem tz_gen {s : ByteArray} {m : Nat} (h : s.size ≤ m) (hm : m ≤ 300) (rest : List UInt8) : tz (tx s ++ rest) m = (s.data.toList, rest, 0) := by
  have hl : s.data.toList.length = s.size := by rw [Array.length_toList]; rfl
  have hp : ps (tx s ++ rest) = (s.size, (Lib.uvarint s.size).length, 0) := by
    unfold tx
    rw [List.append_assoc]
    exact ps_uv (by omega) _
  unfold tz
  rw [hp]
  have h1 : ¬ ((m : Int) < ((s.size : Nat) : Int)) := by omega
  have h2 : ¬ (tx s ++ rest).length < (Lib.uvarint s.size).length + s.size := by
    unfold tx
    rw [List.length_append, List.length_append]
    omega
  simp only [ne_eq, not_true_eq_false, if_false, if_neg h1, if_neg h2]
  unfold tx
  rw [List.append_assoc, List.drop_left' rfl, ← hl, List.take_left' rfl, ← List.append_assoc, List.drop_left' (by rw [List.length_append])]
theorem txt_tx {s : ByteArray} (h : s.size ≤ 24) (rest : List UInt8) (ov : Bool) : txtS 24 (tx s ++ rest, 0, ov) = (s, (rest, 0, ov)) := by
  unfold txtS
  rw [if_neg (by simp)]
  have := tz_gen (m := 24) h (by decide) rest
  rw [show ((24 : Nat) : Int) = 24 from rfl] at this
  simp only [this]

/-- So many of a kind, one behind the other. -/
theorem it_good {α β : Type} {f : St → α × St} {enc : β → List UInt8} {val : β → α} {xs : List β} {ov : Bool} (hf : ∀ x ∈ xs, ∀ rest, f (enc x ++ rest, 0, ov) = (val x, (rest, 0, ov))) (rest : List UInt8) :
    ∀ k, k ≤ xs.length → itS f k (xs.flatMap enc ++ rest, 0, ov) = ((xs.take k).map val, ((xs.drop k).flatMap enc ++ rest, 0, ov))
  | 0, _ => by simp [itS]
  | k + 1, hk => by
    have hl : k < xs.length := hk
    unfold itS
    rw [it_good hf rest k (by omega)]
    simp only
    rw [List.drop_eq_getElem_cons hl, List.flatMap_cons, List.append_assoc, hf _ (List.getElem_mem hl), List.take_succ_eq_append_getElem hl, List.map_append]
    rfl
theorem it_all {α β : Type} {f : St → α × St} {enc : β → List UInt8} {val : β → α} {xs : List β} {ov : Bool} (hf : ∀ x ∈ xs, ∀ rest, f (enc x ++ rest, 0, ov) = (val x, (rest, 0, ov))) (rest : List UInt8) {n : Nat} (hn : n = xs.length) :
    itS f n (xs.flatMap enc ++ rest, 0, ov) = (xs.map val, (rest, 0, ov)) := by
  subst hn
  rw [it_good hf rest _ (Nat.le_refl _), List.take_of_length_le (Nat.le_refl _), List.drop_of_length_le (Nat.le_refl _)]
  rfl
theorem bytes_good (l rest : List UInt8) (ov : Bool) : itS byteU l.length (l ++ rest, 0, ov) = (l, (rest, 0, ov)) := by
  have h := it_all (f := byteU) (enc := fun c : UInt8 => [c]) (val := id) (xs := l) (ov := ov) (fun x _ r => by
    unfold byteU
    rw [byte_one]
    simp) rest rfl
  rw [show l.flatMap (fun c : UInt8 => [c]) = l by induction l with
    | nil => rfl
    | cons c r ih => rw [List.flatMap_cons, ih (it_all (fun x _ r => by unfold byteU; rw [byte_one]; simp) rest rfl)]; rfl] at h
  simpa using h
theorem str_good {t : ByteArray} (h : t.size ≤ 300) (rest : List UInt8) (ov : Bool) : strS (fx t.size ++ (t.data.toList ++ rest), 0, ov) = (t, (rest, 0, ov)) := by
  unfold strS
  rw [cnt_fx h (by decide)]
  have hl : t.data.toList.length = t.size := by rw [Array.length_toList]; rfl
  have := bytes_good t.data.toList rest ov
  rw [hl] at this
  simp only [this]

/-! Keys and bits. -/
theorem mask_bit (ks : List Int) (h : ∀ k ∈ ks, 0 ≤ k) : ∀ (a j : Nat), (ks.foldl (fun a k => if k < 32 then a ||| 2 ^ k.toNat else a) a).testBit j = (a.testBit j || decide (j < 32 ∧ (j : Int) ∈ ks)) := by
  induction ks with
  | nil => intro a j; simp
  | cons k r ih =>
    intro a j
    rw [List.foldl_cons, ih (fun x hx => h x (List.mem_cons_of_mem _ hx))]
    have h0 := h k (by simp)
    split
    · rename_i hk
      rw [Nat.testBit_or, Nat.testBit_two_pow]
      by_cases e : k.toNat = j
      · subst e
        have : ((k.toNat : Nat) : Int) = k := by omega
        have hk2 : k.toNat < 32 := by omega
        simp [this, hk2]
      · have e2 : ¬ ((j : Int) = k) := by omega
        simp [e, e2]
    · rename_i hk
      have e2 : j < 32 → ¬ ((j : Int) = k) := by omega
      by_cases hj : j < 32
      · simp [hj, e2 hj]
      · simp [hj]
theorem mask_test {ks : List Int} (h : ∀ k ∈ ks, 0 ≤ k) (j : Nat) : (maskN ks).testBit j = decide (j < 32 ∧ (j : Int) ∈ ks) := by
  unfold maskN
  rw [mask_bit ks h]
  simp
theorem mask_lt {ks : List Int} (h : ∀ k ∈ ks, 0 ≤ k) : maskN ks < 4294967296 := by
  rw [show 4294967296 = 2 ^ 32 from rfl]
  refine Nat.lt_pow_two_of_testBit _ fun i hi => ?_
  rw [mask_test h]
  simp
  omega
theorem mask_filter (ks : List Int) : ∀ a : Nat, (ks.filter fun k => decide (k < 32)).foldl (fun a k => if k < 32 then a ||| 2 ^ k.toNat else a) a = ks.foldl (fun a k => if k < 32 then a ||| 2 ^ k.toNat else a) a := by
  induction ks with
  | nil => intro a; rfl
  | cons k r ih =>
    intro a
    by_cases hk : k < 32
    · rw [List.filter_cons_of_pos (by simpa using hk), List.foldl_cons, List.foldl_cons, ih]
    · rw [List.filter_cons_of_neg (by simpa using hk), ih, List.foldl_cons, if_neg hk]
theorem rise_ext : ∀ {a b : List Int}, a.Pairwise (· < ·) → b.Pairwise (· < ·) → (∀ x, x ∈ a ↔ x ∈ b) → a = b
  | [], [], _, _, _ => rfl
  | [], y :: b, _, _, h => by have := (h y).2 (by simp); simp at this
  | x :: a, [], _, _, h => by have := (h x).1 (by simp); simp at this
  | x :: a, y :: b, ha, hb, h => by
    rw [List.pairwise_cons] at ha hb
    have hxy : x = y := by
      have h1 := (h x).1 (by simp)
      have h2 := (h y).2 (by simp)
      rcases List.mem_cons.1 h1 with e | e
      · exact e
      · rcases List.mem_cons.1 h2 with e2 | e2
        · exact e2.symm
        · have := ha.1 y e2; have := hb.1 x e; omega
    subst hxy
    congr 1
    refine rise_ext ha.2 hb.2 fun z => ⟨fun hz => ?_, fun hz => ?_⟩
    · rcases List.mem_cons.1 ((h z).1 (List.mem_cons_of_mem _ hz)) with e | e
      · have := ha.1 z hz; omega
      · exact e
    · rcases List.mem_cons.1 ((h z).2 (List.mem_cons_of_mem _ hz)) with e | e
      · have := hb.1 z hz; omega
      · exact e
theorem keysB_get {ks : List Int} {n : Nat} (h : keysB ks n = true) {i : Nat} {x : Int} (hx : ks[i]? = some x) : pk ks i < x ∧ x < n := by
  have := (of_decide_eq_true h) i (List.getElem?_eq_some_iff.1 hx).1
  unfold okK at this
  rwa [getD_some 0 hx] at this
theorem keysB_rise {ks : List Int} {n : Nat} (h : keysB ks n = true) : ks.Pairwise (· < ·) ∧ ∀ k ∈ ks, 0 ≤ k ∧ k < n := by
  have step : ∀ (i : Nat) (x y : Int), ks[i]? = some x → ks[i + 1]? = some y → x < y := fun i x y hx hy => by
    have := (keysB_get h hy).1
    rwa [pk_succ hx] at this
  have low : ∀ (i : Nat) (x : Int), ks[i]? = some x → 0 ≤ x := by
    intro i
    induction i with
    | zero => intro x hx; have := (keysB_get h hx).1; rw [pk_zero] at this; omega
    | succ i ih =>
      intro x hx
      have hl := (List.getElem?_eq_some_iff.1 hx).1
      have h1 := ih _ (List.getElem?_eq_getElem (show i < ks.length by omega))
      have h2 := step i _ x (List.getElem?_eq_getElem (show i < ks.length by omega)) hx
      omega
  refine ⟨?_, fun k hk => ?_⟩
  · rw [List.pairwise_iff_getElem]
    intro i j hi hj hij
    obtain ⟨d, rfl⟩ : ∃ d, j = i + 1 + d := ⟨j - (i + 1), by omega⟩
    clear hij
    induction d with
    | zero => exact step i _ _ (List.getElem?_eq_getElem hi) (List.getElem?_eq_getElem hj)
    | succ d ih =>
      have h1 := ih (by omega)
      have h2 := step (i + 1 + d) _ _ (List.getElem?_eq_getElem (by omega)) (List.getElem?_eq_getElem hj)
      exact Int.lt_trans h1 h2
  · obtain ⟨i, hi⟩ := List.mem_iff_getElem?.1 hk
    exact ⟨low i k hi, (keysB_get h hi).2⟩
theorem keys_rise (n : Nat) : (keysN n).Pairwise (· < ·) := by
  unfold keysN
  rw [List.pairwise_map]
  refine List.Pairwise.imp (R := (· < ·)) (fun h => by omega) (List.Pairwise.filter _ List.pairwise_lt_range)
theorem keys_mem (n : Nat) (x : Int) : x ∈ keysN n ↔ ∃ k : Nat, k < 32 ∧ n.testBit k = true ∧ (k : Int) = x := by
  unfold keysN
  rw [List.mem_map]
  constructor
  · rintro ⟨k, hk, rfl⟩
    rw [List.mem_filter, List.mem_range] at hk
    exact ⟨k, hk.1, hk.2, rfl⟩
  · rintro ⟨k, h1, h2, rfl⟩
    exact ⟨k, by rw [List.mem_filter, List.mem_range]; exact ⟨h1, h2⟩, rfl⟩
theorem keys_mask {ks : List Int} {n : Nat} (h : keysB ks n = true) : keysN (maskN ks) = ks.filter (fun k => decide (k < 32)) := by
  obtain ⟨hr, hb⟩ := keysB_rise h
  refine rise_ext (keys_rise _) (hr.filter _) fun x => ?_
  rw [keys_mem, List.mem_filter]
  constructor
  · rintro ⟨k, h1, h2, rfl⟩
    rw [mask_test (fun k hk => (hb k hk).1)] at h2
    have := of_decide_eq_true h2
    exact ⟨this.2, decide_eq_true (by omega)⟩
  · rintro ⟨h1, h2⟩
    have h3 : x < 32 := of_decide_eq_true h2
    have h4 := (hb x h1).1
    refine ⟨x.toNat, by omega, ?_, by omega⟩
    rw [mask_test (fun k hk => (hb k hk).1)]
    exact decide_eq_true ⟨by omega, by rw [show ((x.toNat : Nat) : Int) = x by omega]; exact h1⟩
theorem keysB_of {ks : List Int} {n : Nat} (h1 : ks.Pairwise (· < ·)) (h2 : ∀ k ∈ ks, 0 ≤ k ∧ k < n) : keysB ks n = true := by
  refine decide_eq_true fun i hi => ?_
  have hx := List.getElem?_eq_getElem hi
  unfold okK
  rw [getD_some 0 hx]
  refine ⟨?_, (h2 _ (List.getElem_mem hi)).2⟩
  cases i with
  | zero => rw [pk_zero]; have := (h2 _ (List.getElem_mem hi)).1; omega
  | succ i =>
    rw [pk_succ (List.getElem?_eq_getElem (show i < ks.length by omega))]
    exact List.pairwise_iff_getElem.1 h1 i (i + 1) (by omega) hi (by omega)
end Go.Proofs.YtchlbbndfhibgaaGreatDoor.OlD
