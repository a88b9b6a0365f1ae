/-
  RackFuse: so many writes are done, and the next one takes the power; till a crash all says so.
-/
import Derived.Test.YtefgcckdlebfaaaRkAw
namespace Go.Proofs.Ytefgcckdlebfaaa.RkFu
open Go.RowKit Go.Proofs.Ytefgcckdlebfaaa.BxD Go.Proofs.Ytefgcckdlebfaaa.BxKit Go.Proofs.Ytefgcckdlebfaaa.RkO Go.Proofs.Ytefgcckdlebfaaa.RkC Go.Proofs.Ytefgcckdlebfaaa.RkD Go.Proofs.Ytefgcckdlebfaaa.RkR Go.Proofs.Ytefgcckdlebfaaa.RkK Go.Proofs.Ytefgcckdlebfaaa.RkP Go.Proofs.Ytefgcckdlebfaaa.RkQ Go.Proofs.Ytefgcckdlebfaaa.RkE Go.Proofs.Ytefgcckdlebfaaa.RkS Go.Proofs.Ytefgcckdlebfaaa.RkM Go.Proofs.Ytefgcckdlebfaaa.RkN Go.Proofs.Ytefgcckdlebfaaa.RkV Go.Proofs.Ytefgcckdlebfaaa.RkW Go.Proofs.Ytefgcckdlebfaaa.RkU Go.Proofs.Ytefgcckdlebfaaa.RkT Go.Proofs.Ytefgcckdlebfaaa.RkG Go.Proofs.Ytefgcckdlebfaaa.RkAw

theorem cmp_self (a : ByteArray) : cmpS a a = 0 := ordS.refl a
theorem put_nil (n : ByteArray) (d : List UInt8) : putF n d [] = [(n, d)] := by simp [putF, put, hit, lo, ins]
theorem put_one (n : ByteArray) (c d : List UInt8) : putF n d [(n, c)] = [(n, d)] := by
  have h := cmp_self n
  have hl : ¬ cmpS n n < 0 := by rw [h]; decide
  simp [putF, put, hit, lo, upd, h]
/-- The rack behind i of N writes under one name. -/
structure FF (n : ByteArray) (N i : Nat) (s : St) : Prop where
  room : s.room = 1000000
  sure : s.sure = []
  files : s.files = [] ∨ ∃ c : UInt8, s.files = [(n, [c])]
  writes : s.writes = i
  down : s.down = false
  fuse : s.fuse = some (N - i)
theorem okN_of {n : ByteArray} (h1 : 1 ≤ n.size) (h2 : n.size ≤ 20) : okN n = true := decide_eq_true (by omega)
theorem good {n : ByteArray} (h1 : 1 ≤ n.size) (h2 : n.size ≤ 20) {d : List UInt8} (hd : d.length ≤ 1) : wrBad n d = false := by
  unfold wrBad; rw [okN_of h1 h2]
  simp; omega
theorem fits {n : ByteArray} (h2 : n.size ≤ 20) {s : St} (hr : s.room = 1000000) (hf : s.files = [] ∨ ∃ c : UInt8, s.files = [(n, [c])]) {d : List UInt8} (hd : d.length ≤ 1) : wrFull s n d = false ∧ putF n d s.files = [(n, d)] := by
  have hp : putF n d s.files = [(n, d)] := by
    rcases hf with h | ⟨c, h⟩
    · rw [h]; exact put_nil n d
    · rw [h]; exact put_one n _ d
  refine ⟨?_, hp⟩
  unfold wrFull
  rw [hp, hr]
  simp [costs]; omega
theorem FF.start (n : ByteArray) (N : Nat) : FF n N 0 (fuS (newS 1000000) (some N)) := ⟨rfl, rfl, .inl rfl, rfl, rfl, rfl⟩
theorem FF.next {n : ByteArray} {N i : Nat} {s : St} (h : FF n N i s) (h1 : 1 ≤ n.size) (h2 : n.size ≤ 20) (hi : i < N) (c : UInt8) : wrE s n [c] = 0 ∧ FF n N (i + 1) (wrS s n [c]) := by
  have hb := good h1 h2 (d := [c]) (by simp)
  obtain ⟨hf, hp⟩ := fits h2 h.room h.files (d := [c]) (by simp)
  have hz : ¬ s.fuse = some 0 := by rw [h.fuse]; simp; omega
  unfold wrE wrS
  rw [hb, h.down, hf, hp]
  have hE : goE s = 0 := if_neg hz
  have hS : goS s ⟨n, false, [c]⟩ [(n, [c])] = { s with files := [(n, [c])], loose := s.loose ++ [⟨n, false, [c]⟩], writes := s.writes + 1, fuse := s.fuse.map (· - 1) } := if_neg hz
  refine ⟨hE, ?_⟩
  rw [if_neg (by decide), if_neg (by decide), if_neg (by decide), hS]
  refine ⟨h.room, h.sure, .inr ⟨c, rfl⟩, ?_, h.down, ?_⟩
  · show s.writes + 1 = i + 1
    rw [h.writes]
  · show s.fuse.map (· - 1) = some (N - (i + 1))
    rw [h.fuse]; simp; omega
theorem FF.last {n : ByteArray} {N : Nat} {s : St} (h : FF n N N s) (h1 : 1 ≤ n.size) (h2 : n.size ≤ 20) : wrE s n [] = 5 ∧ wrS s n [] = { s with down := true } := by
  have hb := good h1 h2 (d := []) (by simp)
  obtain ⟨hf, hp⟩ := fits h2 h.room h.files (d := []) (by simp)
  have hz : s.fuse = some 0 := by rw [h.fuse]; simp
  unfold wrE wrS
  rw [hb, h.down, hf]
  exact ⟨if_pos hz, if_pos hz⟩
theorem dark {n : ByteArray} (h1 : 1 ≤ n.size) (h2 : n.size ≤ 20) {s : St} (hd : s.down = true) : wrE s n [] = 5 ∧ wrS s n [] = s ∧ ctE s n = 5 ∧ ctS s n = s ∧ flE s = 5 ∧ flS s = s ∧ rdF s n = none := by
  have hb := good h1 h2 (d := []) (by simp)
  have ho := okN_of h1 h2
  refine ⟨?_, ?_, ?_, ?_, ?_, ?_, rdF_down hd n⟩
  · unfold wrE; rw [hb, hd]; rfl
  · unfold wrS; rw [hb, hd]; rfl
  · unfold ctE; rw [ho, hd]; rfl
  · unfold ctS; rw [ho, hd]; rfl
  · unfold flE; rw [hd]; rfl
  · unfold flS; rw [hd]; rfl
theorem again {n : ByteArray} (h1 : 1 ≤ n.size) (h2 : n.size ≤ 20) {s : St} (hr : s.room = 1000000) (hs : s.sure = []) (hl : ∀ c, cr [] s.loose c [] = []) : (crS s []).down = false ∧ wrE (crS s []) n [] = 0 := by
  have hb := good h1 h2 (d := []) (by simp)
  have hf0 : (crS s []).files = [] := by show cr [] s.loose 0 s.sure = []; rw [hs]; exact hl 0
  obtain ⟨hf, hp⟩ := fits h2 (s := crS s []) hr (.inl hf0) (d := []) (by simp)
  refine ⟨rfl, ?_⟩
  unfold wrE
  rw [hb, hf, show (crS s []).down = false from rfl]
  rfl
theorem cr_none : ∀ (l : List Ch) (k : Nat) (f : List F), cr [] l k f = f
  | [], _, _ => rfl
  | c :: r, k, f => by unfold cr; rw [show picked [] k = false from rfl]; exact cr_none r (k + 1) f
theorem rem30 (x : Int) : ∃ N : Nat, (IntKind.u64.wrap x).tmod 30 = (N : Int) ∧ N < 30 := by
  rw [IntKind.wrap_u64, Int.tmod_eq_emod_of_nonneg (by omega)]
  exact ⟨(x % 18446744073709551616 % 30).toNat, by omega, by omega⟩
def byt (i : Nat) : UInt8 := UInt8.ofNat i
theorem byt_eq (i : Nat) (h : i < 256) : IntKind.u8.wrap (i : Int) = ((byt i).toNat : Int) := by
  rw [IntWalk.u8_in _ (by omega)]
  unfold byt
  rw [UInt8.toNat_ofNat', Nat.mod_eq_of_lt (by omega)]
set_option maxHeartbeats 4000000 in
theorem walk {w : World} {x : Int} {n : ByteArray} (hn : n.size ≤ 140737488355328) :
    Calls Try.prog 7 #[.int .i64 x, .string n] w fun e w' => e = .returned (.bool true) ∧ Below w.heap.size w w' := by
  obtain ⟨N, hN, h30⟩ := rem30 x
  by_cases hsz : n.size < 1 ∨ 20 < n.size
  · have KA := Lib.hid (awake w)
    rcases hsz with hsz | hsz
    · have h1 : (n.size : Int) < 1 := by omega
      go_enter Try.func7, Try.ntmps7
      go_wp2_with (go_at_call 9; go_loud (refine KA.out.mono ?_; rintro e w1 ⟨rfl, hb⟩))
      go_ret
      exact ⟨rfl, hb⟩
    · have h1 : ¬ (n.size : Int) < 1 := by omega
      have h2 : (20 : Int) < (n.size : Int) := by omega
      go_enter Try.func7, Try.ntmps7
      go_wp2_with (go_at_call 9; go_loud (refine KA.out.mono ?_; rintro e w1 ⟨rfl, hb⟩))
      go_ret
      exact ⟨rfl, hb⟩
  have s1 : 1 ≤ n.size := by omega
  have s2 : n.size ≤ 20 := by omega
  have h1 : ¬ (n.size : Int) < 1 := by omega
  have h2 : ¬ (20 : Int) < (n.size : Int) := by omega
  have KN := Lib.hid (newB w w (Below.refl _ _) 1000000)
  unfold ptr at KN
  clear hsz
  have HS1 := Lib.hid s1
  have HS2 := Lib.hid s2
  go_enter Try.func7, Try.ntmps7
  go_upto_region 2 with fail
  clear hN
  go_upto_region 5 with (go_at_call 10; go_loud (refine KN.out.mono ?_; rintro e w1 ⟨rfl, g⟩; have R1 := Lib.hid g; clear g))
  obtain ⟨T, hT⟩ : ∃ T, T = w.heap.size := ⟨_, rfl⟩
  rw [← hT] at R1 ⊢
  clear hT KN
  have KF := Lib.hid (FuseB R1.out (N : Int) (by omega))
  rw [show fuO (N : Int) = some N by unfold fuO; rw [if_neg (by omega)]; simp] at KF
  unfold ptr at KF
  go_upto_region 6 with (go_at_call 20; go_loud (refine KF.out.mono ?_; rintro e w2 ⟨rfl, g⟩; have R2 := Lib.hid g; clear g))
  go_wp2_with fail
  go_loopw [31, 6] (fun s31 s6 wr => ∃ (i : Nat) (s : St), i ≤ N ∧ s31 = .int .i64 i ∧ Hid (RkB w wr T i s) ∧ Hid (FF n N i s)) (fun s31 _ _ => N - (intOf s31).toNat)
  case atStart => exact ⟨0, _, Nat.zero_le _, rfl, R2, FF.start n N⟩
  case round =>
    clear R1 R2 KF
    obtain ⟨i, s, hi, rfl, HR, HF⟩ := hrel
    by_cases hlt : i < N
    · obtain ⟨e1, f1⟩ := HF.out.next HS1.out HS2.out hlt (byt i)
      have hbi := byt_eq i (by omega)
      have KW := Lib.hid (WriteB (dc := 1) (HR.out.alloc (.cells #[.int .u8 (byt i).toNat] 5)) (by omega) n (one_by wr (byt i) (0, 0) rfl) (by simp))
      rw [e1] at KW
      have HF1 := Lib.hid f1
      unfold ptr at KW
      clear e1 f1
      go_upto_region 10 with (first
        | (go_at_call 12; go_loud (refine KW.out.mono ?_; rintro e w3 ⟨rfl, g⟩; have R3 := Lib.hid g; clear g; have KD := Lib.hid (DownB R3.out); rw [HF1.out.down] at KD; unfold ptr at KD))
        | (go_at_call 29; go_loud (refine KD.out.mono ?_; rintro e w4 ⟨rfl, rfl⟩)))
      go_wp2_with fail
      go_roundw
      case measure => simp [intOf]; omega
      case rel => exact ⟨i + 1, _, by omega, by go_num, R3, HF1⟩
    · obtain rfl : i = N := by omega
      obtain ⟨e2, f2⟩ := HF.out.last HS1.out HS2.out
      obtain ⟨S1, hS1⟩ : ∃ S1 : St, S1 = { s with down := true } := ⟨_, rfl⟩
      have KW := Lib.hid (WriteB (dc := 0) HR.out (by omega) n (PkKit.BytesAt.nil wr 0 none) (Nat.zero_le _))
      rw [e2, f2, ← hS1] at KW
      have hd : S1.down = true := by rw [hS1]
      have hw : S1.writes = i := by rw [hS1]; exact HF.out.writes
      obtain ⟨d1, d2, d3, d4, d5, d6, d7⟩ := dark HS1.out HS2.out (s := S1) hd
      obtain ⟨g1, g2⟩ := again HS1.out HS2.out (s := S1) (by rw [hS1]; exact HF.out.room) (by rw [hS1]; exact HF.out.sure) (fun c => cr_none _ _ _)
      have HW := Lib.hid hw
      have HD := Lib.hid hd
      have G2 := Lib.hid (And.intro g1 g2)
      have D := Lib.hid (And.intro d1 (And.intro d2 (And.intro d3 (And.intro d4 (And.intro d5 (And.intro d6 d7))))))
      unfold ptr at KW
      clear e2 f2 hS1 hd hw d1 d2 d3 d4 d5 d6 d7 g1 g2
      go_upto_region 13 with (go_at_call 12; go_loud (refine KW.out.mono ?_; rintro e w3 ⟨rfl, g⟩; have R3 := Lib.hid g; clear g))
      have KR := Lib.hid (ReadB R3.out (by omega) n)
      rw [D.out.2.2.2.2.2.2] at KR
      unfold ptr RdPost at KR
      go_upto_region 14 with (go_at_call 22; go_loud (refine KR.out.mono ?_; rintro e w4 ⟨A4, m4, c4, rfl, _, _, hb4⟩; have R4 := Lib.hid (R3.out.below hb4); clear hb4))
      have KW2 := Lib.hid (WriteB (dc := 0) R4.out (by omega) n (PkKit.BytesAt.nil w4 0 none) (Nat.zero_le _))
      rw [D.out.1, D.out.2.1] at KW2
      unfold ptr at KW2
      go_upto_region 15 with (first
        | (go_at_call 12; go_loud (refine KW2.out.mono ?_; rintro e w5 ⟨rfl, g⟩; have R5 := Lib.hid g; clear g; have KC := Lib.hid (CutB R5.out (by omega) n); rw [D.out.2.2.1, D.out.2.2.2.1] at KC; unfold ptr at KC))
        | (go_at_call 14; go_loud (refine KC.out.mono ?_; rintro e w6 ⟨rfl, g⟩; have R6 := Lib.hid g; clear g; have KL := Lib.hid (FlushB R6.out); rw [D.out.2.2.2.2.1, D.out.2.2.2.2.2.1] at KL; unfold ptr at KL))
        | (go_at_call 16; go_loud (refine KL.out.mono ?_; rintro e w7 ⟨rfl, g⟩; have R7 := Lib.hid g; clear g)))
      have KD := Lib.hid (DownB R7.out)
      rw [HD.out] at KD
      have KV := Lib.hid (WritesB R7.out)
      rw [HW.out] at KV
      unfold ptr at KD KV
      go_upto_region 17 with (first
        | (go_at_call 29; go_loud (refine KD.out.mono ?_; rintro e w8 ⟨rfl, rfl⟩))
        | (go_at_call 30; go_loud (refine KV.out.mono ?_; rintro e w8 ⟨rfl, rfl⟩)))
      have KX := Lib.hid (CrashB (dc := 0) R7.out (by omega) (PkKit.BytesAt.nil w7 0 none) (Nat.zero_le _) (by omega))
      unfold ptr at KX
      go_upto_region 18 with (go_at_call 18; go_loud (refine KX.out.mono ?_; rintro e w9 ⟨rfl, g⟩; have R9 := Lib.hid g; clear g))
      have KE := Lib.hid (DownB R9.out)
      rw [G2.out.1] at KE
      have KZ := Lib.hid (WriteB (dc := 0) R9.out (by omega) n (PkKit.BytesAt.nil w9 0 none) (Nat.zero_le _))
      rw [G2.out.2] at KZ
      unfold ptr at KE KZ
      go_wp2_with (first
        | (go_at_call 29; go_loud (refine KE.out.mono ?_; rintro e wa ⟨rfl, rfl⟩))
        | (go_at_call 12; go_loud (refine KZ.out.mono ?_; rintro e wb ⟨rfl, g⟩; have RB := Lib.hid g; clear g; have KA := Lib.hid (awake wb)))
        | (go_at_call 9; go_loud (refine KA.out.mono ?_; rintro e wc ⟨rfl, hb⟩; have RC := Lib.hid (RB.out.below hb); clear hb)))
      go_ret
      exact ⟨rfl, RC.out.bel⟩
end Go.Proofs.Ytefgcckdlebfaaa.RkFu
