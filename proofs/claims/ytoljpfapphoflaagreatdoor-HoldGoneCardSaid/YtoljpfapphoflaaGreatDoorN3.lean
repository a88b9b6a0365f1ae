/-
  PtD + F3D
-/
import Derived.Test.YtoljpfapphoflaaGreatDoorJ1
import Derived.Test.YtoljpfapphoflaaGreatDoorZ8
set_option linter.unusedVariables false
set_option linter.unusedSimpArgs false
set_option maxRecDepth 512
namespace Go.Proofs.YtoljpfapphoflaaGreatDoor.PtD
open Go.RowKit BxD BxOp PkA PkB PkD PkF OlD
theorem mm_parts {n:Nat} {m:Msg} (h:mmB n m=true):(1<=m.uid/\m.uid<=999999)/\(1<=m.mod/\m.mod<=1000000)/\(0<=m.date/\m.date<=1000000)/\atB m.id=true/\(0<=m.flags/\m.flags<=31)/\keysB m.keys n=true/\m.text.size<=300:=by
 unfold mmB at h;simp only [Bool.and_eq_true,decide_eq_true_eq] at h;obtain⟨h1,h2,h3,h4,h5,h6,h7⟩:=h;exact⟨inB_out h1,inB_out h2,inB_out h3,h4,inB_out h5,h6,h7⟩
structure Good (b:Box):Prop where
 ida:atB b.id=true
 ids:b.id.size<=12
 val:1<=b.valid/\b.valid<=1000000
 hig:1<=b.high/\b.high<=1000000
 nxt:1<=b.next/\b.next<=1000000
 wl:b.words.length<=64
 ml:b.msgs.length<=60
 ws:wordsB b.words=true
 ms : ∀ m∈b.msgs,okOne b m
 ri:Rises b.msgs
theorem good_of {b:Box} (h:mbE b=0):Good b:=by
 obtain⟨h1,h2,h3,h4⟩:=mb_ok h;unfold headB at h1;simp only [Bool.and_eq_true,decide_eq_true_eq] at h1;obtain⟨a1,a2,a3,a4,a5⟩:=h1;obtain⟨m1,m2⟩:=(msgsB_iff b).1 h4;exact⟨a1,a2,inB_out a3,inB_out a4,inB_out a5,by omega,by omega,h3,m1,m2⟩
theorem good_may {b:Box} (h:Good b):mbE b=0:=by
 refine mb_of ?_ ?_ h.ws ((msgsB_iff b).2 ⟨h.ms,h.ri⟩)
 · unfold headB
   simp only [Bool.and_eq_true,decide_eq_true_eq];exact⟨h.ida,h.ids,inB_true h.val.1 h.val.2,inB_true h.hig.1 h.hig.2,inB_true h.nxt.1 h.nxt.2⟩
 · have:=h.wl; have:=h.ml; omega
theorem wordsB_at {ws:List ByteArray} (h:wordsB ws=true) : ∀ s∈ws,atB s=true:=by
 intro s hs;obtain⟨i,hi⟩:=List.mem_iff_getElem?.1 hs;have:=(of_decide_eq_true h) i (List.getElem?_eq_some_iff.1 hi).1;unfold okW at this;rw [getD_some _ hi] at this;exact this.1
def nums (zs:List Int):List UInt8:=zs.flatMap fun z=>Lib.uvarint (cl z)
theorem nums_snoc {zs:List Int} {k:Nat} {x:Int} (h:zs[k]? = some x):nums (zs.take (k+1))=nums (zs.take k)++Lib.uvarint (cl x):=by
 obtain⟨hl,rfl⟩:=List.getElem?_eq_some_iff.1 h;unfold nums;rw [List.take_succ_eq_append_getElem hl,List.flatMap_append];simp
theorem nums_len (zs:List Int):(nums zs).length<=6*zs.length:=by
 induction zs with
 | nil=>exact Nat.le_refl _
 | cons z zs ih =>
  have h1:=uv_len (cl_le z);unfold nums at ih ⊢;rw [List.flatMap_cons,List.length_append,List.length_cons];omega
theorem nums_cons (z:Int) (zs:List Int):nums (z::zs)=nums [z]++nums zs:=by simp [nums]
theorem nums_one (z:Int):nums [z]=Lib.uvarint (cl z):=by simp [nums]
def numV (s:St):Nat × St:=if s.2.1≠0 then (0,s) else ((ps s.1).1,(s.1.drop (ps s.1).2.1,(ps s.1).2.2,s.2.2))
def ntS (m:Nat) (s:St):Nat × St:=if m<(numV s).1 then (0,((numV s).2.1,(numV s).2.2.1,true)) else numV s
theorem nt_le (m:Nat) (s:St):(ntS m s).1<=m:=by
 unfold ntS;split
 · exact Nat.zero_le _
 · omega
theorem nt_good {z:Int} {m:Nat} (h0:0<=z) (hz:z<=m) (hm:m<=1099511627776) (rest:List UInt8) (ov:Bool):ntS m (nums [z]++rest,0,ov)=(z.toNat,(rest,0,ov)):=by
 have hc:cl z=z.toNat:=by unfold cl; omega
 have hv:numV (nums [z]++rest,0,ov)=(z.toNat,(rest,0,ov)):=by
  unfold numV;rw [if_neg (by simp),nums_one,hc];simp only;rw [ps_uv (by omega)];simp only [List.drop_left' rfl]
 unfold ntS;rw [hv,if_neg (by omega)]
theorem txt_good {s:ByteArray} {m:Nat} (h:s.size<=m) (hm:m<=300) (rest:List UInt8) (ov:Bool):txtS m (tx s++rest,0,ov)=(s,(rest,0,ov)):=by
 unfold txtS;rw [if_neg (by simp)];simp only [tz_gen h hm rest]
def itG {σ α:Type} (f:σ->α × σ):Nat->σ->List α × σ
 | 0,s=>([],s)
 | k+1,s=>((itG f k s).1++[(f (itG f k s).2).1],(f (itG f k s).2).2)
theorem itG_len {σ α:Type} (f:σ->α × σ) : ∀ (k:Nat) (s:σ),(itG f k s).1.length=k
 | 0,_=>rfl
 | k+1,s=>by
  unfold itG;rw [List.length_append,itG_len f k s];rfl
theorem itG_cons {σ α:Type} (f:σ->α × σ) : ∀ (k:Nat) (s:σ),itG f (k+1) s=((f s).1::(itG f k (f s).2).1,(itG f k (f s).2).2)
 | 0,_=>rfl
 | k+1,s=>by
  have h:=itG_cons f k s;show ((itG f (k+1) s).1++[(f (itG f (k+1) s).2).1],(f (itG f (k+1) s).2).2)=_;rw [h];rfl
theorem it_itG {α:Type} (f:St->α × St) : ∀ (k:Nat) (s:St),itS f k s=itG f k s
 | 0,_=>rfl
 | k+1,s=>by
  unfold itS itG;rw [it_itG f k s]
def Okk (s:St):Prop:=s.2.1=0/\s.2.2=false
end Go.Proofs.YtoljpfapphoflaaGreatDoor.PtD

set_option maxRecDepth 512
namespace Go.Proofs.YtoljpfapphoflaaGreatDoor.F3D
open Go.RowKit BxD BxOp PkA PkB PkD PkF OlD PtD
def stp (n last:Int):Int:=if n<=last then 0 else if last<0/\9223372036854775807+last<n then 9223372036854775807 else n-last
def kb:Int->List Int->List UInt8
 | _,[]=>[]
 | a,k::r=>nums [stp k a]++kb k r
def lst:Int->List Int->Int
 | a,[]=>a
 | _,x::r=>lst x r
def m3 (last:Int) (m:Msg):List UInt8:=nums [stp m.uid last,m.mod,m.date,m.flags,(m.keys.length:Nat)]++(kb (-1) m.keys++(tx m.id++tx m.text))
def ms3:Int->List Msg->List UInt8
 | _,[]=>[]
 | a,m::r=>m3 a m++ms3 m.uid r
def hd3 (b:Box):List UInt8:=nums [b.valid,b.next,b.high]++(tx b.id++(nums [(b.words.length:Nat)]++(b.words.flatMap tx++nums [(b.msgs.length:Nat)])))
def mk3:List UInt8:=[77,66,51]
def e3R (b:Box):List UInt8:=hd3 b++ms3 0 b.msgs
def e3 (b:Box):List UInt8:=mk3++e3R b
def keyF (s:St × Int):Int × (St × Int):=(s.2+((ntS 1000000 s.1).1:Nat),((ntS 1000000 s.1).2,s.2+((ntS 1000000 s.1).1:Nat)))
def kyS3 (s:St):List Int × St:=((itG keyF (ntS 64 s).1 ((ntS 64 s).2,-1)).1,(itG keyF (ntS 64 s).1 ((ntS 64 s).2,-1)).2.1)
def msg3S (last:Int) (s:St):Msg × St :=
 let u:=ntS 1000000 s
 let o:=ntS 1000000 u.2
 let d:=ntS 1000000 o.2
 let f:=ntS 1000000 d.2
 let k:=kyS3 f.2
 let i:=txtS 24 k.2
 let x:=txtS 300 i.2
 (⟨last+(u.1:Nat),(o.1:Nat),(d.1:Nat),i.1,(f.1:Nat),k.1,x.1⟩,x.2)
def msgF (s:St × Int):Msg × (St × Int):=((msg3S s.2 s.1).1,((msg3S s.2 s.1).2,(msg3S s.2 s.1).1.uid))
def box3S (s:St):Box × St :=
 let v:=ntS 1000000 s
 let n:=ntS 1000000 v.2
 let h:=ntS 1000000 n.2
 let i:=txtS 24 h.2
 let c:=ntS 64 i.2
 let w:=itS (txtS 24) c.1 c.2
 let e:=ntS 60 w.2
 let m:=itG msgF e.1 (e.2,0)
 (⟨i.1,(v.1:Nat),(n.1:Nat),(h.1:Nat),w.1,m.1⟩,m.2.1)
def parse3S (l:List UInt8) (id:ByteArray):Box × Int :=
 if l.take 3=mk3 then
  if firstS (box3S (l.drop 3,0,false)).2≠0 then (nB,firstS (box3S (l.drop 3,0,false)).2)
  else if 0<(box3S (l.drop 3,0,false)).2.1.length\/(box3S (l.drop 3,0,false)).1.id≠id\/mbE (box3S (l.drop 3,0,false)).1≠0 then (nB,3)
  else ((box3S (l.drop 3,0,false)).1,0)
 else (nB,3)
theorem lst_snoc (x:Int) : ∀ (xs:List Int) (a:Int),lst a (xs++[x])=x
 | [],_=>rfl
 | y::r,_=>lst_snoc x r y
theorem kb_snoc (x:Int) : ∀ (xs:List Int) (a:Int),kb a (xs++[x])=kb a xs++nums [stp x (lst a xs)]
 | [],a=>by simp [kb,lst]
 | y::r,a=>by
  show nums [stp y a]++kb y (r++[x])=(nums [stp y a]++kb y r)++_;rw [kb_snoc x r y,List.append_assoc];rfl
theorem ms3_snoc (x:Msg) : ∀ (xs:List Msg) (a:Int),ms3 a (xs++[x])=ms3 a xs++m3 (lst a (xs.map Msg.uid)) x
 | [],a=>by simp [ms3,lst]
 | y::r,a=>by
  show m3 a y++ms3 y.uid (r++[x])=(m3 a y++ms3 y.uid r)++_;rw [ms3_snoc x r y.uid,List.append_assoc];rfl
theorem stp_le (n last:Int) (h:last<=n) (hl : -1<=last) (hn:n<=1000000):stp n last=n-last:=by
 unfold stp;split
 · omega
 · rw [if_neg (by omega)]
theorem key_good {k a:Int} (h1 : -1<=a) (h2:a<k) (h3:k<=999999) (rest:List UInt8) (ov:Bool):keyF ((nums [stp k a]++rest,0,ov),a)=(k,((rest,0,ov),k)):=by
 unfold keyF;rw [stp_le k a (by omega) h1 (by omega)];simp only;rw [nt_good (m:=1000000) (by omega) (by omega) (by decide)];rw [show a+(((k-a).toNat:Nat):Int)=k by omega]
theorem keys_good (rest:List UInt8) (ov:Bool) : ∀ (ks:List Int) (a:Int),-1<=a->(∀ k∈ks,a<k/\k<=999999)->ks.Pairwise (· < ·)->itG keyF ks.length ((kb a ks++rest,0,ov),a)=(ks,((rest,0,ov),lst a ks))
 | [],a,_,_,_=>rfl
 | k::r,a,ha,hk,hp=>by
  rw [List.pairwise_cons] at hp;have h1:=hk k (by simp);rw [List.length_cons,itG_cons];have e:kb a (k::r)++rest=nums [stp k a]++(kb k r++rest):=by
   show (nums [stp k a]++kb k r)++rest=_;rw [List.append_assoc]
  rw [e,key_good ha h1.1 h1.2];simp only;rw [keys_good rest ov r k (by omega) (fun x hx=>⟨hp.1 x hx,(hk x (List.mem_cons_of_mem _ hx)).2⟩) hp.2];rfl
theorem rise_len : ∀ (ks:List Int) (a n:Int),ks.Pairwise (· < ·)->(∀ k∈ks,a<=k/\k<n)->(ks.length:Int)<=max 0 (n-a)
 | [],_,_,_,_=>by simp; omega
 | k::r,a,n,hp,hk=>by
  rw [List.pairwise_cons] at hp;have h1:=hk k (by simp);have h2:=rise_len r (k+1) n hp.2 (fun x hx=>⟨by have:=hp.1 x hx; omega,(hk x (List.mem_cons_of_mem _ hx)).2⟩);rw [List.length_cons];omega
theorem keys_len {ks:List Int} {n:Nat} (h:keysB ks n=true):ks.length<=n:=by
 obtain⟨h1,h2⟩:=keysB_rise h;have:=rise_len ks 0 n h1 h2;omega
theorem kyS3_good {ks:List Int} {n:Nat} (h:keysB ks n=true) (hn:n<=64) (rest:List UInt8) (ov:Bool):kyS3 (nums [((ks.length:Nat):Int)]++(kb (-1) ks++rest),0,ov)=(ks,(rest,0,ov)):=by
 obtain⟨h1,h2⟩:=keysB_rise h;have hl:=keys_len h;unfold kyS3;rw [nt_good (m:=64) (by omega) (by omega) (by decide)];simp only [Int.toNat_natCast];rw [keys_good rest ov ks (-1) (by omega) (fun k hk=>by have:=h2 k hk; omega) h1]
theorem msg3_good {last:Int} {n:Nat} {m:Msg} (h:mmB n m=true) (hn:n<=64) (h0:0<=last) (hl:last<m.uid) (rest:List UInt8) (ov:Bool):msg3S last (m3 last m++rest,0,ov)=(m,(rest,0,ov)):=by
 obtain⟨h1,h2,h3,h4,h5,h6,h7⟩:=mm_parts h;unfold msg3S m3;rw [nums_cons,nums_cons m.mod,nums_cons m.date,nums_cons m.flags,stp_le _ _ (by omega) (by omega) (by omega)];simp only [List.append_assoc];rw [nt_good (m:=1000000) (by omega) (by omega) (by decide)];simp only;rw [nt_good (m:=1000000) (by omega) (by omega) (by decide)];simp only;rw [nt_good (m:=1000000) (by omega) (by omega) (by decide)];simp only;rw [nt_good (m:=1000000) (by omega) (by omega) (by decide)];simp only;rw [kyS3_good h6 hn];simp only;have e1:=txt_good (m:=24) (atB_size h4).2 (by decide) (tx m.text++rest) ov;have e2:=txt_good (m:=300) h7 (by decide) rest ov;rw [show ((24:Nat):Int)=24 from rfl] at e1;rw [show ((300:Nat):Int)=300 from rfl] at e2;rw [e1];simp only;rw [e2];simp only;have q1:last+(((m.uid-last).toNat:Nat):Int)=m.uid:=by omega
 have q2:((m.mod.toNat:Nat):Int)=m.mod:=by omega
 have q3:((m.date.toNat:Nat):Int)=m.date:=by omega
 have q4:((m.flags.toNat:Nat):Int)=m.flags:=by omega
 rw [q1,q2,q3,q4]
theorem msgs_good {n:Nat} (hn:n<=64) (rest:List UInt8) (ov:Bool) : ∀ (ms:List Msg) (a:Int),0<=a->(∀ m∈ms,mmB n m=true/\a<m.uid)->Rises ms->itG msgF ms.length ((ms3 a ms++rest,0,ov),a)=(ms,((rest,0,ov),lst a (ms.map Msg.uid)))
 | [],a,_,_,_=>rfl
 | m::r,a,ha,hk,hp=>by
  have hp2:=List.pairwise_cons.1 hp;have h1:=hk m (by simp);rw [List.length_cons,itG_cons];have e:ms3 a (m::r)++rest=m3 a m++(ms3 m.uid r++rest):=by
   show (m3 a m++ms3 m.uid r)++rest=_;rw [List.append_assoc]
  have e2:msgF ((ms3 a (m::r)++rest,0,ov),a)=(m,((ms3 m.uid r++rest,0,ov),m.uid)):=by
   unfold msgF;simp only;rw [e,msg3_good h1.1 hn ha h1.2]
  rw [e2];simp only;rw [msgs_good hn rest ov r m.uid (by omega) (fun x hx=>⟨(hk x (List.mem_cons_of_mem _ hx)).1,hp2.1 x hx⟩) hp2.2];rfl
theorem box3_good {b:Box} (h:PtD.Good b) (rest:List UInt8):box3S (e3R b++rest,0,false)=(b,(rest,0,false)):=by
 have hv:=h.val;have hn:=h.nxt;have hh:=h.hig;have hw:=h.wl;have hm:=h.ml;unfold box3S e3R hd3;rw [nums_cons,nums_cons b.next];simp only [List.append_assoc];rw [nt_good (m:=1000000) (by omega) (by omega) (by decide)];simp only;rw [nt_good (m:=1000000) (by omega) (by omega) (by decide)];simp only;rw [nt_good (m:=1000000) (by omega) (by omega) (by decide)];simp only;have e1:=txt_good (m:=24) (s:=b.id) (by have:=h.ids; omega) (by decide) (nums [((b.words.length:Nat):Int)]++(b.words.flatMap tx++(nums [((b.msgs.length:Nat):Int)]++(ms3 0 b.msgs++rest)))) false;rw [show ((24:Nat):Int)=24 from rfl] at e1;rw [e1];simp only;rw [nt_good (m:=64) (by omega) (by omega) (by decide)];simp only [Int.toNat_natCast];rw [it_all (f:=txtS 24) (enc:=tx) (val:=fun s=>s) (xs:=b.words) (ov:=false) (fun s hs r=>txt_tx (atB_size (wordsB_at h.ws s hs)).2 r false) _ rfl];simp only;rw [nt_good (m:=60) (by omega) (by omega) (by decide)];simp only [Int.toNat_natCast];rw [msgs_good (n:=b.words.length) (by omega) rest false b.msgs 0 (by omega) (fun m hm=>⟨(h.ms m hm).1,by have:=(mm_parts (h.ms m hm).1).1; omega⟩) h.ri];have q1:((b.valid.toNat:Nat):Int)=b.valid:=by omega
 have q2:((b.next.toNat:Nat):Int)=b.next:=by omega
 have q3:((b.high.toNat:Nat):Int)=b.high:=by omega
 simp only [q1,q2,q3,List.map_id']
theorem take_mk3 (l:List UInt8):(mk3++l).take 3=mk3:=rfl
theorem drop_mk3 (l:List UInt8):(mk3++l).drop 3=l:=rfl
theorem parse3_good {b:Box} (h:mbE b=0):parse3S (e3 b) b.id=(b,0):=by
 have g:=good_of h;unfold parse3S e3;rw [take_mk3,if_pos rfl,drop_mk3];have:=box3_good g [];rw [List.append_nil] at this;rw [this];simp only [firstS];rw [if_neg (by simp),if_neg (by simp [h])]
theorem msg3_parts (last:Int) (s:St) : ∃ u o d f k i x,u=ntS 1000000 s/\o=ntS 1000000 u.2/\d=ntS 1000000 o.2/\f=ntS 1000000 d.2/\k=kyS3 f.2/\i=txtS 24 k.2/\x=txtS 300 i.2 /\
 msg3S last s=(⟨last+(u.1:Nat),(o.1:Nat),(d.1:Nat),i.1,(f.1:Nat),k.1,x.1⟩,x.2):=⟨_,_,_,_,_,_,_,rfl,rfl,rfl,rfl,rfl,rfl,rfl,rfl⟩
theorem box3_parts (s:St) : ∃ v n h i c w e m,v=ntS 1000000 s/\n=ntS 1000000 v.2/\h=ntS 1000000 n.2/\i=txtS 24 h.2/\c=ntS 64 i.2/\w=itS (txtS 24) c.1 c.2/\e=ntS 60 w.2/\m=itG msgF e.1 (e.2,0) /\
 box3S s=(⟨i.1,(v.1:Nat),(n.1:Nat),(h.1:Nat),w.1,m.1⟩,m.2.1):=⟨_,_,_,_,_,_,_,_,rfl,rfl,rfl,rfl,rfl,rfl,rfl,rfl,rfl⟩
end Go.Proofs.YtoljpfapphoflaaGreatDoor.F3D
