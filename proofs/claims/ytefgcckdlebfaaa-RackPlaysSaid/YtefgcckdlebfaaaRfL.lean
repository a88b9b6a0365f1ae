/-
  Calls on both racks; Like.
-/
import Derived.Test.YtefgcckdlebfaaaRfT
import Derived.Test.YtefgcckdlebfaaaRkH
import Derived.Test.YtefgcckdlebfaaaRkKe
namespace Go.Proofs.Ytefgcckdlebfaaa.RfL
open Go.RowKit Go.Proofs.Ytefgcckdlebfaaa.BxD Go.Proofs.Ytefgcckdlebfaaa.BxKit Go.Proofs.Ytefgcckdlebfaaa.RkO Go.Proofs.Ytefgcckdlebfaaa.RkC Go.Proofs.Ytefgcckdlebfaaa.RkD Go.Proofs.Ytefgcckdlebfaaa.RkR Go.Proofs.Ytefgcckdlebfaaa.RkK Go.Proofs.Ytefgcckdlebfaaa.RkP Go.Proofs.Ytefgcckdlebfaaa.RkQ Go.Proofs.Ytefgcckdlebfaaa.RkE Go.Proofs.Ytefgcckdlebfaaa.RkS Go.Proofs.Ytefgcckdlebfaaa.RkM Go.Proofs.Ytefgcckdlebfaaa.RkN Go.Proofs.Ytefgcckdlebfaaa.RkV Go.Proofs.Ytefgcckdlebfaaa.RkW Go.Proofs.Ytefgcckdlebfaaa.RkU Go.Proofs.Ytefgcckdlebfaaa.RkT Go.Proofs.Ytefgcckdlebfaaa.RkG Go.Proofs.Ytefgcckdlebfaaa.RfA Go.Proofs.Ytefgcckdlebfaaa.RfP Go.Proofs.Ytefgcckdlebfaaa.RfS Go.Proofs.Ytefgcckdlebfaaa.RfT

section
variable {w0 w : World} {T T2 k : Nat} {s t : St}
theorem Write1 (h : Two w0 w T T2 k s t) (h6 : k ≤ 900) {D : Option Addr} {dn dc B : Nat} (n : ByteArray) {d : List UInt8} (hD : PkKit.BytesAt w B D dn d) (hB : B ≤ w.heap.size) :
    Calls Try.prog 12 #[RfS.ptr T, .string n, .slice D dn dc] w fun e w' => e = .returned (.int .i64 (wrE s n d)) ∧ Two w0 w' T T2 (k + 1) (wrS s n d) t := by
  obtain ⟨h1, h2, h3, h4, h5, SA, sn, sc, FA, fn, fcp, LA, ln, lc, NA, nn, nc, SA2, sn2, sc2, LA2, ln2, lc2, h6', h7, h8⟩ := h
  exact (Write_any h6' h2 h6 hD hB h1.size h4).mono fun _ _ p => Two.prog h1 h6' h7 h8 (h2.wr n d) (h3.mono (Nat.le_succ k)) (h4.wr n d) h5 p
theorem Write2 (h : Two w0 w T T2 k s t) (h6 : k ≤ 900) {D : Option Addr} {dn dc B : Nat} (n : ByteArray) {d : List UInt8} (hD : PkKit.BytesAt w B D dn d) (hB : B ≤ w.heap.size) {m : Nat} (hm : k = m + 1) (okm : Ok m t) (okr : Ok k (wrR t n d)) :
    Calls Try.prog 13 #[RfS.ptr T2, .string n, .slice D dn dc] w fun e w' => e = .returned (.int .i64 (wrE t n d)) ∧ Two w0 w' T T2 k s (wrR t n d) := by
  obtain ⟨h1, h2, h3, h4, h5, SA, sn, sc, FA, fn, fcp, LA, ln, lc, NA, nn, nc, SA2, sn2, sc2, LA2, ln2, lc2, h6', h7, h8⟩ := h
  exact (RfW.Write_any h7 okm (by omega) hD hB h1.size h5).mono fun _ _ p => Two.ref h1 h6' h7 h8 h2 okr h4 (h5.wr n d) p
theorem Cut1 (h : Two w0 w T T2 k s t) (h6 : k ≤ 900) (n : ByteArray) :
    Calls Try.prog 14 #[RfS.ptr T, .string n] w fun e w' => e = .returned (.int .i64 (ctE s n)) ∧ Two w0 w' T T2 (k + 1) (ctS s n) t := by
  obtain ⟨h1, h2, h3, h4, h5, SA, sn, sc, FA, fn, fcp, LA, ln, lc, NA, nn, nc, SA2, sn2, sc2, LA2, ln2, lc2, h6', h7, h8⟩ := h
  exact (Cut_any h6' h2 h6 h1.size h4).mono fun _ _ p => Two.prog h1 h6' h7 h8 (h2.ct n) (h3.mono (Nat.le_succ k)) (h4.ct n) h5 p
theorem Cut2 (h : Two w0 w T T2 k s t) (h6 : k ≤ 900) (n : ByteArray) {m : Nat} (hm : k = m + 1) (okm : Ok m t) (okr : Ok k (ctR t n)) :
    Calls Try.prog 15 #[RfS.ptr T2, .string n] w fun e w' => e = .returned (.int .i64 (ctE t n)) ∧ Two w0 w' T T2 k s (ctR t n) := by
  obtain ⟨h1, h2, h3, h4, h5, SA, sn, sc, FA, fn, fcp, LA, ln, lc, NA, nn, nc, SA2, sn2, sc2, LA2, ln2, lc2, h6', h7, h8⟩ := h
  exact (RfW.Cut_any h7 okm (by omega) h1.size h5).mono fun _ _ p => Two.ref h1 h6' h7 h8 h2 okr h4 (h5.ct n) p
theorem Flush1 (h : Two w0 w T T2 k s t) : Calls Try.prog 16 #[RfS.ptr T] w fun e w' => e = .returned (.int .i64 (flE s)) ∧ Two w0 w' T T2 k (flS s) t := by
  obtain ⟨h1, h2, h3, h4, h5, SA, sn, sc, FA, fn, fcp, LA, ln, lc, NA, nn, nc, SA2, sn2, sc2, LA2, ln2, lc2, h6', h7, h8⟩ := h
  exact (flush_any h6').mono fun _ _ p => Two.prog h1 h6' h7 h8 h2.fl h3 h4.fl h5 p
theorem Flush2 (h : Two w0 w T T2 k s t) (h6 : k ≤ 900) : Calls Try.prog 17 #[RfS.ptr T2] w fun e w' => e = .returned (.int .i64 (flE t)) ∧ Two w0 w' T T2 k s (flS t) := by
  obtain ⟨h1, h2, h3, h4, h5, SA, sn, sc, FA, fn, fcp, LA, ln, lc, NA, nn, nc, SA2, sn2, sc2, LA2, ln2, lc2, h6', h7, h8⟩ := h
  exact (RfF.flush_any h7 (by have := h7.files.len; have := h3.files.len; omega)).mono fun _ _ p => Two.ref h1 h6' h7 h8 h2 h3.fl h4 h5.fl p
theorem Crash1 (h : Two w0 w T T2 k s t) (h6 : k ≤ 900) {D : Option Addr} {dn dc B : Nat} {ps : List UInt8} (hD : PkKit.BytesAt w B D dn ps) (hB : B ≤ w.heap.size) (hdn : dn ≤ 100000000) :
    Calls Try.prog 18 #[RfS.ptr T, .slice D dn dc] w fun e w' => e = .returned (.tuple #[]) ∧ Two w0 w' T T2 k (crS s ps) t := by
  obtain ⟨h1, h2, h3, h4, h5, SA, sn, sc, FA, fn, fcp, LA, ln, lc, NA, nn, nc, SA2, sn2, sc2, LA2, ln2, lc2, h6', h7, h8⟩ := h
  exact (crash_any h6' h2 h6 hD hB hdn).mono fun _ _ p => Two.prog h1 h6' h7 h8 (h2.cr ps) h3 (FuOk.cr s ps) h5 p
theorem Crash2 (h : Two w0 w T T2 k s t) (h6 : k ≤ 900) {D : Option Addr} {dn dc : Nat} {ps : List UInt8} (hD : PkKit.BytesAt w w0.heap.size D dn ps) (hdn : dn ≤ 100000000) :
    Calls Try.prog 19 #[RfS.ptr T2, .slice D dn dc] w fun e w' => e = .returned (.tuple #[]) ∧ Two w0 w' T T2 k s (crS t ps) := by
  obtain ⟨h1, h2, h3, h4, h5, SA, sn, sc, FA, fn, fcp, LA, ln, lc, NA, nn, nc, SA2, sn2, sc2, LA2, ln2, lc2, h6', h7, h8⟩ := h
  exact (RfC.crash_any h7 h3 h6 (fun wr hf => (hD.below (hf.old h1.size h7.low h7.lb) (Nat.le_refl _)).more (Nat.le_trans h1.size hf.size)) hdn).mono fun _ _ p => Two.ref h1 h6' h7 h8 h2 (h3.cr ps) h4 (FuR.cr t ps) p
theorem Fuse1 (h : Two w0 w T T2 k s t) (n : Int) (hn : n ≤ 9223372036854775807) : Calls Try.prog 20 #[RfS.ptr T, .int .i64 n] w fun e w' => e = .returned (.tuple #[]) ∧ Two w0 w' T T2 k (fuS s (fuO n)) t := by
  obtain ⟨h1, h2, h3, h4, h5, SA, sn, sc, FA, fn, fcp, LA, ln, lc, NA, nn, nc, SA2, sn2, sc2, LA2, ln2, lc2, h6', h7, h8⟩ := h
  exact (fuse_any h6' n).mono fun _ _ p => Two.prog h1 h6' h7 h8 (h2.fu _) h3 (FuOk.fu s n hn) h5 p
theorem Fuse2 (h : Two w0 w T T2 k s t) (n : Int) : Calls Try.prog 21 #[RfS.ptr T2, .int .i64 n] w fun e w' => e = .returned (.tuple #[]) ∧ Two w0 w' T T2 k s (fuR t n) := by
  obtain ⟨h1, h2, h3, h4, h5, SA, sn, sc, FA, fn, fcp, LA, ln, lc, NA, nn, nc, SA2, sn2, sc2, LA2, ln2, lc2, h6', h7, h8⟩ := h
  exact (RfF.fuse_any h7 n).mono fun _ _ p => Two.ref h1 h6' h7 h8 h2 (h3.fu _) h4 (FuR.fu t n) p
theorem Read1 (h : Two w0 w T T2 k s t) (h6 : k ≤ 1000) (n : ByteArray) : Calls Try.prog 22 #[RfS.ptr T, .string n] w (RdPost (rdF s n) w) := ReadB h.rkb h6 n
theorem Read2 (h : Two w0 w T T2 k s t) (h6 : k ≤ 1000) (n : ByteArray) : Calls Try.prog 23 #[RfS.ptr T2, .string n] w (RdPost (rdF t n) w) := by
  obtain ⟨h1, h2, h3, h4, h5, SA, sn, sc, FA, fn, fcp, LA, ln, lc, NA, nn, nc, SA2, sn2, sc2, LA2, ln2, lc2, h6', h7, h8⟩ := h
  exact RfF.read_any h7 h3 h6 n
end
end Go.Proofs.Ytefgcckdlebfaaa.RfL
