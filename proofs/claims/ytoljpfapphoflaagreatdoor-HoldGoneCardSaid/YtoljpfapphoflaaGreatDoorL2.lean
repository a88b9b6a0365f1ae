/-
  PtR + PtA
-/
import Derived.Test.YtoljpfapphoflaaGreatDoorPtK
import Derived.Test.YtoljpfapphoflaaGreatDoorN3
set_option linter.unusedVariables false
set_option linter.unusedSimpArgs false
set_option maxHeartbeats 1000000
set_option maxRecDepth 100000
namespace Go.Proofs.YtoljpfapphoflaaGreatDoor.PtR
open Go.RowKit BxD PkKit PkD PkF OlD PtD PtK
structure PRd (w:World) (R T:Nat) (s:St):Prop where
 blk:w.heap[R]? = some (.cells #[ptr T,.bool s.2.2] 135 (0,0))
 rd:RD w T s.1 s.2.1
 ne:R≠T
theorem no_bytes {p:Option Addr} {o:Bool} (k:Nat) (x:Int):(#[.pointer p,.bool o]:Array Value)[k]?≠some (.int .u8 x):=by
 match k with
 | 0=>simp
 | 1=>simp
 | k+2=>simp
section
variable {R T : Nat} {w w' w2 : World} {s s' : St}
theorem PRd.lt (h:PRd w R T s):R<w.heap.size:=(gs_ h.blk).1
theorem PRd.cells (h:PRd w R T s):w.cell? ⟨R,0,none⟩ = some (ptr T)/\w.cell? ⟨R,1,none⟩ = some (.bool s.2.2)/\w.frozen? ⟨R,1,none⟩ = false:=by
 refine⟨?_, ?_, ?_⟩
 · rw [cell_of_row w R 0 _ _ _ h.blk]; rfl
 · rw [cell_of_row w R 1 _ _ _ h.blk]; rfl
 · simp [World.frozen?,h.blk]
theorem PRd.go (h:PRd w R T s) (hb:Below w.heap.size w w'):PRd w' R T s:=⟨(hb.block R h.lt).trans h.blk,h.rd.below hb h.rd.lt,h.ne⟩
theorem PRd.alloc (h:PRd w R T s) (o:Obj):PRd (w.alloc o) R T s:=h.go ((Below.refl _ _).alloc lr_ o)
theorem PRd.step (h:PRd w R T s) (hr:RD w' T s'.1 s'.2.1) (hg:w.grownBy w' (some T)) (ho:s'.2.2=s.2.2):PRd w' R T s' :=
 ⟨by rw [ho]; exact (hg.block R h.lt (fun e=>h.ne (Option.some.inj e))).trans h.blk,hr,h.ne⟩
theorem PRd.set (h:PRd w R T s) {P i:Nat} (h1:P≠R) (h2:T<P) (v:Value):PRd (w.setCell ⟨P,i,none⟩ v) R T s:=by
 refine⟨(Below.heap_setCell _ _ _ _ (by show R≠P; exact h1.symm)).trans h.blk, ?_,h.ne⟩;exact h.rd.below (B:=T+1) ((Below.refl _ _).setCell (by show T+1<=P; omega) _) (Nat.lt_succ_self _)
theorem PRd.over {l:List UInt8} {er:Nat} {ov:Bool} (h:PRd w R T (l,er,ov)):PRd (w.setCell ⟨R,1,none⟩ (.bool true)) R T (l,er,true):=by
 refine⟨?_,rd_stay h.rd h.blk no_bytes h.ne fun k hk=>Below.heap_setCell _ _ _ _ hk,h.ne⟩;have:=h.blk;simp [World.setCell,Array.getElem?_modify,this]
theorem Fr2.own {base n sz:Nat} {ty:TypeId} {v:Value} {xs:List Value} (hf:Fr2 R T w w') (ho:w.ownsRow base ty sz v n xs) (hR:R<base) (hT:T<base):w'.ownsRow base ty sz v n xs :=
 BxC.own_block ho fun g e=>hf.block g (ho.lt g e).2 (by have:=(ho.lt g e).1; omega) (by have:=(ho.lt g e).1; omega)
end
def Pq (w:World) (R T:Nat) (x:Value) (s:St) (e:Ending) (w':World):Prop:=e = .returned x/\PRd w' R T s/\Fr2 R T w w'
theorem err_p {w:World} {R T:Nat} {s:St} (h:PRd w R T s):Calls Tryz.prog 90 #[ptr R] w fun e w'=>e = .returned (.int .i64 (firstS s:Nat))/\w=w':=by
 obtain⟨l,er,ov⟩:=s;obtain⟨c0,c1,f1⟩:=h.cells;have K:=H_ (err_any h.rd);clear h;cases ov with
 | true =>
  go_enter Tryz.func90,Tryz.ntmps90;go_wp2_with fail
  go_ret;exact⟨rfl,rfl⟩
 | false =>
  go_enter Tryz.func90,Tryz.ntmps90;go_wp2_with (go_at_call 125; go_loud (
   refine K.out.mono ?_;rintro e w1 ⟨rfl,rfl⟩))
  go_ret;exact⟨rfl,rfl⟩
def rfS (s:St):St:=if firstS s=0 then (s.1,s.2.1,true) else s
theorem refuse_p {w:World} {R T:Nat} {s:St} (h:PRd w R T s):Calls Tryz.prog 124 #[ptr R] w (Pq w R T (.tuple #[]) (rfS s)):=by
 obtain⟨c0,c1,f1⟩:=h.cells;have K:=H_ (err_p h);have H:=H_ h;unfold rfS;clear h;obtain⟨fs,hfs⟩ : ∃ fs,fs=firstS s:=⟨_,rfl⟩;rw [<- hfs] at K ⊢;clear hfs;by_cases h0:fs=0
 · subst h0
   rw [if_pos rfl];go_enter Tryz.func124,Tryz.ntmps124;go_wp2_with (go_at_call 90; go_loud (
    refine K.out.mono ?_;rintro e w1 ⟨rfl,rfl⟩))
   go_end0
   exact⟨rfl,PRd.over H.out,(Fr2.refl _ _ _).setR 1 _⟩
 · rw [if_neg h0]
   have h1:=ne_int h0;have h2:((fs:Int)==0)=false:=by simpa using h0
   go_enter Tryz.func124,Tryz.ntmps124;go_wp2_with (go_at_call 90; go_loud (
    refine K.out.mono ?_;rintro e w1 ⟨rfl,rfl⟩))
   go_end0
   exact⟨rfl,H.out,Fr2.refl _ _ _⟩
theorem rf_true {s:St} (h:s.2.1=0):rfS s=(s.1,s.2.1,true):=by
 obtain⟨l,er,ov⟩:=s;simp only at h;subst h;unfold rfS firstS;cases ov <;> simp
theorem upto_p {w:World} {R T m n:Nat} {s:St} (h:PRd w R T s) (he:s.2.1=0\/n<=m):Calls Tryz.prog 154 #[ptr R,.int .i64 (m:Nat),.int .i64 (n:Nat)] w (Pq w R T (.int .i64 ((if m<n then 0 else n:Nat):Int)) (if m<n then (s.1,s.2.1,true) else s)):=by
 have K:=H_ (refuse_p h);have H:=H_ h;clear h;by_cases hmn:m<n
 · have K2:=K.out
   rw [rf_true (by omega)] at K2;have K2:=H_ K2;have hmn2:(m:Int)<(n:Int):=by omega
   rw [if_pos hmn,if_pos hmn];clear K;go_enter Tryz.func154,Tryz.ntmps154;go_wp2_with (go_at_call 124; go_loud (
    refine K2.out.mono ?_;rintro e w1 ⟨rfl,h1,f1⟩;have H1:=H_ h1;have F1:=H_ f1;clear h1 f1))
   go_ret;exact⟨rfl,H1.out,F1.out⟩
 · have hmn2 : ¬ (m:Int)<(n:Int):=by omega
   rw [if_neg hmn,if_neg hmn];clear K;go_enter Tryz.func154,Tryz.ntmps154;go_wp2_with fail
   go_ret;exact⟨rfl,H.out,Fr2.refl _ _ _⟩
theorem numv_all {w:World} {T:Nat} {s:St} (h:RD w T s.1 s.2.1):Calls Tryz.prog 155 #[ptr T] w (Rd1 w T (.int .i64 ((numV s).1:Nat)) (numV s).2):=by
 obtain⟨l,er,ov⟩:=s;unfold numV;by_cases h0:er=0
 · subst h0
   rw [if_neg (by simp)];refine (num_any h).mono ?_;rintro e w' ⟨rfl,h1,h2⟩;exact⟨rfl,h1,h2⟩
 · rw [if_pos h0]
   refine (num_bad h h0).mono ?_;rintro e w' ⟨rfl,rfl⟩;exact⟨rfl,h,World.grownBy.refl _ _⟩
theorem numv_ov (s:St):(numV s).2.2.2=s.2.2:=by unfold numV; split <;> rfl
theorem numv_er (s:St):(numV s).2.2.1=0\/(numV s).1=0:=by
 unfold numV;split
 · exact .inr rfl
 · by_cases hp:(ps s.1).2.2=0
   · exact .inl hp
   · rcases ps_err hp with e | e <;> exact .inr (by rw [e])
theorem fix_er (s:St):(fixS s).2.2.1=0\/(fixS s).1=0:=by
 unfold fixS;split
 · exact .inr rfl
 · split
   · exact .inr rfl
   · exact .inl rfl
theorem nt_eq (m:Nat) (s:St):ntS m s=(if m<(numV s).1 then 0 else (numV s).1,if m<(numV s).1 then ((numV s).2.1,(numV s).2.2.1,true) else (numV s).2):=by
 unfold ntS;split <;> rfl
theorem cnt_eq (m:Nat) (s:St):cntS m s=(if m<(fixS s).1 then 0 else (fixS s).1,if m<(fixS s).1 then ((fixS s).2.1,(fixS s).2.2.1,true) else (fixS s).2):=by
 unfold cntS;split <;> rfl
theorem number_p {w:World} {R T:Nat} {s:St} (h:PRd w R T s) (m:Nat):Calls Tryz.prog 120 #[ptr R,.int .i64 (m:Nat)] w (Pq w R T (.int .i64 ((ntS m s).1:Nat)) (ntS m s).2):=by
 obtain⟨c0,c1,f1⟩:=h.cells;have KF:=H_ (numv_all h.rd);have H:=H_ h;have hov:=numv_ov s;have her:=numv_er s;rw [nt_eq];obtain⟨x,hx⟩ : ∃ x,x=(numV s).1:=⟨_,rfl⟩;obtain⟨s',hs'⟩ : ∃ s',s'=(numV s).2:=⟨_,rfl⟩;rw [<- hx,<- hs'] at KF;rw [<- hs'] at hov;rw [<- hx,<- hs'] at her;rw [<- hx,<- hs'];have HOV:=H_ hov;have HER:=H_ (show s'.2.1=0\/x<=m by omega);obtain⟨y,hy⟩ : ∃ y,y=if m<x then 0 else x:=⟨_,rfl⟩;obtain⟨s2,hs2⟩ : ∃ s2,s2=if m<x then (s'.1,s'.2.1,true) else s':=⟨_,rfl⟩;rw [<- hy,<- hs2];have HY:=H_ hy;have HS:=H_ hs2;clear h hx hs' hov her hy hs2;go_enter Tryz.func120,Tryz.ntmps120;go_wp2_with (first
  | (go_at_call 155; go_loud (
     refine KF.out.mono ?_;rintro e w1 ⟨rfl,hr,hg⟩;have H1:=H_ (H.out.step hr hg HOV.out);have HG:=H_ hg;have ku:=upto_p (n:=x) (m:=m) H1.out HER.out;rw [<- HY.out,<- HS.out] at ku;have KU:=H_ ku;clear hr hg c0 c1 f1 ku))
  | (go_at_call 154; go_loud (
     refine KU.out.mono ?_;rintro e w2 ⟨rfl,h2,f2⟩;have H2:=H_ h2;have F2:=H_ ((Fr2.grown HG.out R).trans f2);clear h2 f2)))
 go_ret;exact⟨rfl,H2.out,F2.out⟩
theorem fixed_p {w:World} {R T:Nat} {s:St} (h:PRd w R T s) (m:Nat):Calls Tryz.prog 218 #[ptr R,.int .i64 (m:Nat)] w (Pq w R T (.int .i64 ((cntS m s).1:Nat)) (cntS m s).2):=by
 obtain⟨c0,c1,f1⟩:=h.cells;have KF:=H_ (fixed_all h.rd);have H:=H_ h;have hov:=fix_ov s;have her:=fix_er s;rw [cnt_eq];obtain⟨x,hx⟩ : ∃ x,x=(fixS s).1:=⟨_,rfl⟩;obtain⟨s',hs'⟩ : ∃ s',s'=(fixS s).2:=⟨_,rfl⟩;rw [<- hx,<- hs'] at KF;rw [<- hs'] at hov;rw [<- hx,<- hs'] at her;rw [<- hx,<- hs'];have HOV:=H_ hov;have HER:=H_ (show s'.2.1=0\/x<=m by omega);obtain⟨y,hy⟩ : ∃ y,y=if m<x then 0 else x:=⟨_,rfl⟩;obtain⟨s2,hs2⟩ : ∃ s2,s2=if m<x then (s'.1,s'.2.1,true) else s':=⟨_,rfl⟩;rw [<- hy,<- hs2];have HY:=H_ hy;have HS:=H_ hs2;clear h hx hs' hov her hy hs2;go_enter Tryz.func218,Tryz.ntmps218;go_wp2_with (first
  | (go_at_call 216; go_loud (
     refine KF.out.mono ?_;rintro e w1 ⟨rfl,hr,hg⟩;have H1:=H_ (H.out.step hr hg HOV.out);have HG:=H_ hg;have ku:=upto_p (n:=x) (m:=m) H1.out HER.out;rw [<- HY.out,<- HS.out] at ku;have KU:=H_ ku;clear hr hg c0 c1 f1 ku))
  | (go_at_call 154; go_loud (
     refine KU.out.mono ?_;rintro e w2 ⟨rfl,h2,f2⟩;have H2:=H_ h2;have F2:=H_ ((Fr2.grown HG.out R).trans f2);clear h2 f2)))
 go_ret;exact⟨rfl,H2.out,F2.out⟩
theorem text_p {w:World} {R T:Nat} {s:St} (h:PRd w R T s) (m:Int):Calls Tryz.prog 123 #[ptr T,.int .i64 m] w (Pq w R T (.string (txtS m s).1) (txtS m s).2):=by
 refine (text_all h.rd m).mono ?_;rintro e w' ⟨rfl,hr,hg⟩;exact⟨rfl,h.step hr hg (txt_ov m s),Fr2.grown hg R⟩
theorem left_p {w:World} {R T:Nat} {s:St} (h:PRd w R T s):Calls Tryz.prog 88 #[ptr T] w fun e w'=>e = .returned (.int .i64 (s.1.length:Nat))/\w=w':=left_any h.rd
def NewQ (w:World) (l:List UInt8) (e:Ending) (w':World):Prop:=∃ R T,e = .returned (ptr R)/\w.heap.size<=R/\w.heap.size<=T/\PRd w' R T (l,0,false)/\Below w.heap.size w w'
theorem new_p {w:World} {B n cp:Nat} {A:Option Addr} {l:List UInt8} (h:BytesAt w B A n l) (hB:B<=w.heap.size) (hn:n<=140737488355328):Calls Tryz.prog 87 #[.slice A n cp] w (NewQ w l):=by
 have KN:=H_ (new_any (cp:=cp) h hB hn);clear h;go_enter Tryz.func87,Tryz.ntmps87;go_wp2_with (go_at_call 119; go_loud (
  refine KN.out.mono ?_;rintro e w1 ⟨T,rfl,hT,hrd,hb⟩;have HR:=H_ hrd;have HB:=H_ hb;clear hrd hb))
 go_ret;have hs:=HB.out.size;have hTl:=HR.out.lt;refine⟨w1.heap.size,T,rfl,by omega,hT,⟨heap_alloc_new w1 _,HR.out.below ((Below.refl w1.heap.size w1).alloc lr_ _) hTl,by omega⟩,HB.out.alloc hs _⟩
end Go.Proofs.YtoljpfapphoflaaGreatDoor.PtR

set_option maxHeartbeats 4000000
set_option maxRecDepth 100000
namespace Go.Proofs.YtoljpfapphoflaaGreatDoor.PtA
open Go.RowKit BxD PkKit PkA PkB PkC PkR OlD PtK OlOm PtD
open BxKit (RowAt IntsAt StrsAt MsgsAt)
theorem nums_any {n m cp B base:Nat} {w:World} {v:Value} {l:List UInt8} {A:Option Addr} {zs:List Int} (hO:Ow w base v n (by_ l)) (hz:IntsAt w B A m zs) (hB:B<=w.heap.size) (hne:0<m->∀ ad,A=some ad->v.ownBlock≠some ad.block) (hn:n+6*m+64<=140737488355328) :
 Calls Tryz.prog 97 #[v,.slice A m cp] w fun e w'=>∃ v',e = .returned v'/\OM w v w' (n+(nums zs).length) v' (l++nums zs):=by
 have hmax:=hz.max;have H0:=H_ (OM.start hO);have HZ:=H_ hz;have HNE:=H_ hne;clear hO hz hne;go_enter Tryz.func97,Tryz.ntmps97;go_wp2_with fail
 go_loopw [0,9] (fun s0 s9 wr=>∃ (v':Value) (k q:Nat),s0=v'/\k<=m/\s9 = .int .i64 k/\q<=6*k/\Hid (q=(nums (zs.take k)).length)/\Hid (OM w v wr (n+q) v' (l++nums (zs.take k)))) (fun _ s9 _=>m-(intOf s9).toNat)
 case atStart=>exact⟨v,0,0,rfl,Nat.zero_le _,rfl,Nat.zero_le _,rfl,by have:=H0.out; simpa [nums,Hid] using this⟩
 case round =>
  obtain⟨v',k,q,rfl,hk,rfl,hq,HQ,HO⟩:=hrel;obtain⟨A1,c1,rfl,hc1⟩:=Ow.slice HO.out.own;by_cases hlt:k<m
  · obtain⟨ad,x,rfl,e1,q1⟩:=ints_kept HO.out HZ.out hB (HNE.out (by omega)) hlt
    have KF:=H_ (number_any (cp:=0) (nil_bytes wr wr.heap.size) lr_ x (by decide));have hsn:=nums_snoc e1;have hul:=uv_len (cl_le x);have hup:=Lib.uvarint_pos (cl x);obtain⟨U,hU⟩ : ∃ U,U=(Lib.uvarint (cl x)).length:=⟨_,rfl⟩;rw [<- hU] at hul hup;have HSN:=H_ hsn;have HU:=H_ hU;clear e1 hsn hU;go_wp2_with (first
     | (go_at_call 135; go_loud (
        refine KF.out.mono ?_;rintro e w1 ⟨v1,rfl,O1⟩;rw [List.nil_append,<- HU.out] at O1;obtain⟨A2,c2,rfl,hc2⟩:=own_slice O1.own;have O1:=H_ O1;have G1:=H_ (HO.out.go O1.out.bel);clear q1))
     | (at_builtin; go_loud (
        refine wpList_ow rfl _ _ rfl rfl rfl G1.out.own O1.out.at_ (by omega) (Nat.zero_le _) hup ?_;intro v3 w3 hown3 hg3 hat3;have G3:=H_ (G1.out.app (m:=n+(q+U)) (l':=l++nums (zs.take (k+1))) (by rw [HSN.out,<- List.append_assoc,by_append,<- Nat.add_assoc]; exact hown3) hg3 hat3);have HQ3:=H_ (show q+U=(nums (zs.take (k+1))).length by rw [HSN.out,List.length_append,<- HQ.out,<- HU.out]);clear hown3 hg3 hat3)))
    go_roundw
    case rel=>exact⟨v3,k+1,q+U,rfl,by omega,by go_num,by omega,HQ3,G3⟩
    case measure=>simp [intOf]; omega
  · obtain rfl:m=k:=by omega
    have hqq:zs.take m=zs:=List.take_of_length_le (by rw [HZ.out.len]; omega);have ho:=HO.out;have hq2:=HQ.out;rw [hqq] at ho hq2;rw [hq2] at ho;have HO2:=H_ ho;clear ho HO hqq;go_wp2_with fail
    go_ret;exact⟨_,rfl,by rw [<- hq2]; rw [<- hq2] at HO2; exact HO2.out⟩
theorem text_om {n base:Nat} {w:World} {v:Value} {l:List UInt8} (hO:Ow w base v n (by_ l)) (s:ByteArray) (hs:s.size<=1099511627776) (hn:n<=1099511627776) :
 Calls Tryz.prog 96 #[v,.string s] w fun e w'=>∃ v',e = .returned v'/\OM w v w' (n+(tx s).length) v' (l++tx s):=by
 have H0:=H_ (OM.start hO);obtain⟨A0,c0,rfl,hc0⟩:=hO.slice;have KT:=H_ (text_any (cp:=0) (nil_bytes w w.heap.size) lr_ s hs (by decide));have hup:0<(tx s).length:=by unfold tx; rw [List.length_append]; have:=Lib.uvarint_pos s.size; omega
 have hul:(tx s).length<=6+1099511627776:=by
  have h1:=uv_len hs;have h2:s.data.toList.length=s.size:=by rw [Array.length_toList]; rfl
  unfold tx;rw [List.length_append];omega
 obtain⟨T,hT⟩ : ∃ T,T=(tx s).length:=⟨_,rfl⟩;rw [<- hT] at hup hul;rw [<- hT];have HT:=H_ hT;clear hO hT;go_enter Tryz.func96,Tryz.ntmps96;go_wp2_with (first
  | (go_at_call 134; go_loud (
     refine KT.out.mono ?_;rintro e w1 ⟨v1,rfl,O1⟩;rw [List.nil_append,<- HT.out] at O1;obtain⟨A2,c2,rfl,hc2⟩:=own_slice O1.own;have O1:=H_ O1;have G1:=H_ (H0.out.go O1.out.bel)))
  | (at_builtin; go_loud (
     refine wpList_ow rfl _ _ rfl rfl rfl G1.out.own O1.out.at_ (by omega) (Nat.zero_le _) hup ?_;intro v3 w3 hown3 hg3 hat3;have G3:=H_ (G1.out.app (m:=n+T) (l':=l++tx s) (by rw [by_append]; exact hown3) hg3 hat3);clear hown3 hg3 hat3)))
 go_ret;exact⟨v3,rfl,G3.out⟩
end Go.Proofs.YtoljpfapphoflaaGreatDoor.PtA
