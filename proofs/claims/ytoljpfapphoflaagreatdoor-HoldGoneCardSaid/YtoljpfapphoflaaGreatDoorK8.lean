/-
  ImD + ImR
-/
import Derived.Test.YtoljpfapphoflaaGreatDoorZ10
import Derived.Test.YtoljpfapphoflaaGreatDoorZ9
import Derived.Test.YtoljpfapphoflaaGreatDoorN3
set_option linter.unusedVariables false
set_option linter.unusedSimpArgs false
set_option maxRecDepth 512
namespace Go.Proofs.YtoljpfapphoflaaGreatDoor.ImD
open Go.RowKit BxD BxOp OlD RwD
structure Fm where
  w:Nat
  c:Bool
  n:Bool
def fm1:Fm:=⟨32,false,false⟩
def fm2:Fm:=⟨32,true,false⟩
def fm3:Fm:=⟨64,true,true⟩
def pmj (f:Fm) (id:ByteArray) (m:Msg):Msg:=⟨m.uid,on1 f.c m.mod,m.date,if f.n then m.id else ownT id m.uid,m.flags,m.keys.filter (fun k=>decide (k<(f.w:Int))),m.text⟩
def pj (f:Fm) (b:Box):Box:=⟨b.id,b.valid,b.next,on1 f.c b.high,b.words.take f.w,b.msgs.map (pmj f b.id)⟩
def noT:ByteArray:=⟨#[]⟩
def flM (f:Fm) (m:Msg):Bool:=m.keys.any fun k=>decide ((f.w:Int)<=k)
def r2 (m:Msg):Row:=⟨2,m.uid,m.mod,⟨0,0,0,noT,m.flags,m.keys,noT⟩,noT⟩
def r5 (m:Msg):Row:=⟨5,m.uid,0,noM,m.id⟩
def r6 (m:Msg):Row:=⟨6,m.uid,m.mod,noM,noT⟩
def r4 (s:ByteArray):Row:=⟨4,0,0,noM,s⟩
def r7 (n:Int):Row:=⟨7,0,n,noM,noT⟩
def reA (f:Fm) (m:Msg):List Row:=if flM f m then [r2 m] else []
def reB (f:Fm) (id:ByteArray) (m:Msg):List Row:=if f.n=false/\m.id≠ownT id m.uid then [r5 m] else []
def reC (f:Fm) (m:Msg):List Row:=if f.c=false/\flM f m=false/\m.mod≠1 then [r6 m] else []
def reM (f:Fm) (id:ByteArray) (m:Msg):List Row:=reA f m++(reB f id m++reC f m)
def reH (f:Fm) (b:Box):List Row:=if f.c=false/\b.high≠1 then [r7 b.high] else []
def reW (f:Fm) (b:Box):List Row:=(b.words.drop f.w).map r4
def re (f:Fm) (b:Box):List Row:=reH f b++(reW f b++b.msgs.flatMap (reM f b.id))
def Is (f:Fm):Prop:=f=fm1\/f=fm2\/f=fm3
theorem reM_len (f:Fm) (id:ByteArray) (m:Msg):(reM f id m).length<=2:=by
  unfold reM reA reB reC;cases flM f m
  · simp; split <;> split <;> simp
  · simp; split <;> simp
theorem flat_len {α β:Type} (g:α->List β) (k:Nat) : ∀ l:List α,(∀ x∈l,(g x).length<=k)->(l.flatMap g).length<=k*l.length
  | [],_=>by simp
  | x::l,h=>by
    have h1:=h x (by simp);have h2:=flat_len g k l fun y hy=>h y (by simp [hy]);rw [List.flatMap_cons,List.length_append,List.length_cons,Nat.mul_add];omega
theorem re_len {f:Fm} {b:Box} (hf:Is f) (h:mbE b=0):(re f b).length<=153:=by
  obtain⟨h1,h2,h3,h4,h5,h6⟩:=(mb_iff b).1 h;have h7:=flat_len (reM f b.id) 2 b.msgs fun m _=>reM_len f b.id m;have h8:(reH f b).length<=1:=by unfold reH; split <;> simp
  have h9:(reW f b).length<=32:=by
    unfold reW;rw [List.length_map,List.length_drop];rcases hf with rfl | rfl | rfl <;> simp only [fm1,fm2,fm3] <;> omega
  unfold re;rw [List.length_append,List.length_append];omega
theorem pj_three {b:Box} (h:mbE b=0):pj fm3 b=b:=by
  obtain⟨h1,h2,h3,h4,h5,h6⟩:=(mb_iff b).1 h;have e2:b.words.take fm3.w=b.words:=List.take_of_length_le h2
  have e3:b.msgs.map (pmj fm3 b.id)=b.msgs:=by
    rw [List.map_congr_left (g:=id),List.map_id];intro m hm;have hk:=keysB_iff m.keys b.words.length |>.1 (mm_keys (h5 m hm).1)
    have:m.keys.filter (fun k=>decide (k<(fm3.w:Int)))=m.keys:=by
      rw [List.filter_eq_self];intro k hk2;have:=(hk.1 k hk2).2;have h64:k<(64:Int):=by omega
      exact decide_eq_true h64
    unfold pmj;rw [this];rfl
  unfold pj;rw [e2,e3];rfl
theorem pj_may {f:Fm} {b:Box} (hf:Is f) (h:mbE b=0):mbE (pj f b)=0:=by
  rcases hf with rfl | rfl | rfl
  · exact OlP.good_may (OlP.pb_good (cg:=false) (OlP.good_of h))
  · exact OlP.good_may (OlP.pb_good (cg:=true) (OlP.good_of h))
  · rw [pj_three h]; exact h
theorem upd_here {u:Int} {g:Msg->Msg} {p q:List Msg} {x:Msg} (hx:x.uid=u) (hp : ∀ y∈p,y.uid≠u) (hq : ∀ y∈q,y.uid≠u):upd u g (p++x::q)=p++g x::q:=by
  have e : ∀ l:List Msg,(∀ y∈l,y.uid≠u)->l.map (fun m=>if m.uid=u then g m else m)=l:=fun l hl=>by
    rw [List.map_congr_left (g:=id),List.map_id];intro y hy;rw [if_neg (hl y hy)];rfl
  unfold upd;rw [List.map_append,List.map_cons,e p hp,e q hq,if_pos hx]
theorem find_here {p q:List Msg} {x:Msg} {u:Int} (hx:x.uid=u) : ¬ findI (p++x::q) u<0:=by
  have:=find_of (ms:=p++x::q) (m:=x) (by simp);rw [hx] at this;omega
def bx (b:Box) (hi:Int) (ws:List ByteArray) (ms:List Msg):Box:=⟨b.id,b.valid,b.next,hi,ws,ms⟩
theorem go_row {b c:Box} {r:Row} {l:List Row} (h:apE b r=0) (hc:apB b r=c):allG b (r::l)=allG c l/\mbE c=0:=by
  rw [allG_cons,if_pos h,hc];exact⟨rfl,hc ▸ (ap_may h).1⟩
theorem words_go (b:Box) (hi:Int) (ms:List Msg) (rest:List Row) : ∀ (l pre:List ByteArray),(∀ x∈l,atB x=true)->(pre++l).Nodup->(pre++l).length<=64->mbE (bx b hi pre ms)=0 ->
    allG (bx b hi pre ms) (l.map r4++rest)=allG (bx b hi (pre++l) ms) rest/\mbE (bx b hi (pre++l) ms)=0
  | [],pre,_,_,_,hb=>by simpa using hb
  | x::l,pre,h1,h2,h3,hb=>by
    have hx:=h1 x (by simp)
    have hn:x∉pre:=fun hm=>by
      rw [List.nodup_append] at h2;exact h2.2.2 x hm x (by simp) rfl
    have hl : ¬ 64<=pre.length:=by simp at h3; omega
    have he:apE (bx b hi pre ms) (r4 x)=0:=by
      have hn' : ¬ ((r4 x).text∈(bx b hi pre ms).words):=hn;have hl' : ¬ (64<=(bx b hi pre ms).words.length):=hl;unfold apE;rw [if_neg (by simp [hb]),if_neg (show ¬ (r4 x).kind=1 from (by decide : ¬ (4:Int)=1)),if_pos (show (r4 x).kind=4 from rfl),if_neg (show ¬ atB (r4 x).text=false by show ¬ atB x=false; simp [hx]),if_neg hn',if_neg hl']
    obtain⟨e1,e2⟩:=go_row (l:=l.map r4++rest) he (c:=bx b hi (pre++[x]) ms) rfl;obtain⟨e3,e4⟩:=words_go b hi ms rest l (pre++[x]) (fun y hy=>h1 y (by simp [hy])) (by simpa using h2) (by simpa using h3) e2;rw [List.map_cons,List.cons_append,e1];simpa using And.intro e3 e4
theorem msg_go {f:Fm} {b:Box} {n:Nat} {p q:List Msg} {m:Msg} (rest:List Row) (hm:okOne b m) (hn:b.words.length=n) (hp : ∀ y∈p,y.uid≠m.uid) (hq : ∀ y∈q,y.uid≠m.uid)
    (hb:mbE (bx b b.high b.words (p++pmj f b.id m::q))=0) :
    allG (bx b b.high b.words (p++pmj f b.id m::q)) (reM f b.id m++rest)=allG (bx b b.high b.words (p++m::q)) rest/\mbE (bx b b.high b.words (p++m::q))=0:=by
  obtain⟨m1,m2,m3⟩:=hm;obtain⟨a1,a2,a3,a4,a5,a6,a7⟩:=mm_parts m1;have hmax:max b.high m.mod=b.high:=by omega
  have hmod:modB m.mod=true:=inB_true a2.1 a2.2;have hfl:flB m.flags=true:=inB_true a5.1 a5.2
  -- flags
  have A : ∃ x:Msg,x.uid=m.uid/\x.date=m.date/\x.id=(pmj f b.id m).id/\x.flags=m.flags/\x.keys=m.keys/\x.text=m.text/\(x.mod=m.mod\/(flM f m=false/\x.mod=on1 f.c m.mod)) /\
      allG (bx b b.high b.words (p++pmj f b.id m::q)) (reM f b.id m++rest)=allG (bx b b.high b.words (p++x::q)) (reB f b.id m++(reC f m++rest))/\mbE (bx b b.high b.words (p++x::q))=0:=by
    unfold reM reA;cases hF:flM f m with
    | false =>
      have hk:(pmj f b.id m).keys=m.keys:=by
        show m.keys.filter _=m.keys;rw [List.filter_eq_self];intro k hk;unfold flM at hF;rw [List.any_eq_false] at hF;have:=hF k hk;simp only [decide_eq_true_eq] at this ⊢;omega
      exact⟨pmj f b.id m,rfl,rfl,rfl,rfl,hk,rfl,.inr ⟨rfl,rfl⟩,by simp,hb⟩
    | true =>
      have he:apE (bx b b.high b.words (p++pmj f b.id m::q)) (r2 m)=0:=by
        unfold apE
        rw [if_neg (by simp [hb]),if_neg (show ¬ (r2 m).kind=1 from (by decide : ¬ (2:Int)=1)),if_neg (show ¬ (r2 m).kind=4 from (by decide : ¬ (2:Int)=4)),if_neg (show ¬ (r2 m).kind=7 from (by decide : ¬ (2:Int)=7)),if_pos (.inl rfl),if_neg (show ¬ findI (bx b b.high b.words (p++pmj f b.id m::q)).msgs (r2 m).uid<0 from find_here rfl),if_neg (show ¬ (r2 m).kind=5 from (by decide : ¬ (2:Int)=5)),
          if_neg (show ¬ ((r2 m).kind=2/\(flB (r2 m).msg.flags&&keysB (r2 m).msg.keys (bx b b.high b.words (p++pmj f b.id m::q)).words.length)=false) from fun h=>by have h2:(flB m.flags&&keysB m.keys b.words.length)=false:=h.2; rw [hfl,a6] at h2; cases h2),if_pos (show modB (r2 m).mod=true from hmod)]
      have hB:apB (bx b b.high b.words (p++pmj f b.id m::q)) (r2 m)=bx b b.high b.words (p++(⟨m.uid,m.mod,m.date,(pmj f b.id m).id,m.flags,m.keys,m.text⟩:Msg)::q):=by
        unfold apB;rw [if_neg (show ¬ (r2 m).kind=1 from (by decide : ¬ (2:Int)=1)),if_neg (show ¬ (r2 m).kind=4 from (by decide : ¬ (2:Int)=4)),if_neg (show ¬ (r2 m).kind=7 from (by decide : ¬ (2:Int)=7)),if_neg (show ¬ (r2 m).kind=5 from (by decide : ¬ (2:Int)=5)),if_neg (show ¬ (r2 m).kind=3 from (by decide : ¬ (2:Int)=3)),if_pos (show (r2 m).kind=2 from rfl)];show (⟨b.id,b.valid,b.next,max b.high m.mod,b.words,upd m.uid _ (p++pmj f b.id m::q)⟩:Box)=_;rw [hmax,upd_here (u:=m.uid) (x:=pmj f b.id m) rfl hp hq];rfl
      obtain⟨e1,e2⟩:=go_row (l:=(reB f b.id m++reC f m)++rest) he hB;refine⟨⟨m.uid,m.mod,m.date,(pmj f b.id m).id,m.flags,m.keys,m.text⟩,rfl,rfl,rfl,rfl,rfl,rfl,.inl rfl, ?_,e2⟩;rw [if_pos rfl];show allG _ (r2 m::((reB f b.id m++reC f m)++rest))=_;rw [e1,List.append_assoc]
  obtain⟨x,x1,x2,x3,x4,x5,x6,x7,e1,hb1⟩:=A
  -- the name
  have B : ∃ y:Msg,y.uid=m.uid/\y.date=m.date/\y.id=m.id/\y.flags=m.flags/\y.keys=m.keys/\y.text=m.text/\(y.mod=m.mod\/(flM f m=false/\y.mod=on1 f.c m.mod)) /\
      allG (bx b b.high b.words (p++x::q)) (reB f b.id m++(reC f m++rest))=allG (bx b b.high b.words (p++y::q)) (reC f m++rest)/\mbE (bx b b.high b.words (p++y::q))=0:=by
    unfold reB;by_cases hN:f.n=false/\m.id≠ownT b.id m.uid
    · rw [if_pos hN]
      have he:apE (bx b b.high b.words (p++x::q)) (r5 m)=0:=by
        unfold apE;rw [if_neg (by simp [hb1]),if_neg (show ¬ (r5 m).kind=1 from (by decide : ¬ (5:Int)=1)),if_neg (show ¬ (r5 m).kind=4 from (by decide : ¬ (5:Int)=4)),if_neg (show ¬ (r5 m).kind=7 from (by decide : ¬ (5:Int)=7)),if_pos (.inr (.inr (.inl rfl))),if_neg (show ¬ findI (bx b b.high b.words (p++x::q)).msgs (r5 m).uid<0 from find_here x1),if_pos (show (r5 m).kind=5 from rfl),if_pos (show atB (r5 m).text=true from a4)]
      have hB:apB (bx b b.high b.words (p++x::q)) (r5 m)=bx b b.high b.words (p++(⟨x.uid,x.mod,x.date,m.id,x.flags,x.keys,x.text⟩:Msg)::q):=by
        unfold apB;rw [if_neg (show ¬ (r5 m).kind=1 from (by decide : ¬ (5:Int)=1)),if_neg (show ¬ (r5 m).kind=4 from (by decide : ¬ (5:Int)=4)),if_neg (show ¬ (r5 m).kind=7 from (by decide : ¬ (5:Int)=7)),if_pos (show (r5 m).kind=5 from rfl)];show (⟨b.id,b.valid,b.next,b.high,b.words,upd m.uid _ (p++x::q)⟩:Box)=_;rw [upd_here x1 hp hq];rfl
      obtain⟨e3,e4⟩:=go_row (l:=reC f m++rest) he hB;exact⟨⟨x.uid,x.mod,x.date,m.id,x.flags,x.keys,x.text⟩,x1,x2,rfl,x4,x5,x6,x7,e3,e4⟩
    · rw [if_neg hN]
      refine⟨x,x1,x2, ?_,x4,x5,x6,x7,rfl,hb1⟩;rw [x3];unfold pmj;simp only;cases hn2:f.n with
      | true=>rfl
      | false =>
        have : ¬ m.id≠ownT b.id m.uid:=fun h=>hN ⟨hn2,h⟩;simp only [ne_eq,Classical.not_not] at this;rw [if_neg (by simp)];exact this.symm
  obtain⟨y,y1,y2,y3,y4,y5,y6,y7,e2,hb2⟩:=B;rw [e1,e2]
  -- the Mod
  unfold reC;by_cases hC:f.c=false/\flM f m=false/\m.mod≠1
  · rw [if_pos hC]
    have he:apE (bx b b.high b.words (p++y::q)) (r6 m)=0:=by
      unfold apE
      rw [if_neg (by simp [hb2]),if_neg (show ¬ (r6 m).kind=1 from (by decide : ¬ (6:Int)=1)),if_neg (show ¬ (r6 m).kind=4 from (by decide : ¬ (6:Int)=4)),if_neg (show ¬ (r6 m).kind=7 from (by decide : ¬ (6:Int)=7)),if_pos (.inr (.inr (.inr rfl))),if_neg (show ¬ findI (bx b b.high b.words (p++y::q)).msgs (r6 m).uid<0 from find_here y1),if_neg (show ¬ (r6 m).kind=5 from (by decide : ¬ (6:Int)=5)),
        if_neg (fun h:(r6 m).kind=2/\_=>absurd h.1 (show ¬ (r6 m).kind=2 from (by decide : ¬ (6:Int)=2))),if_pos (show modB (r6 m).mod=true from hmod)]
    have hB:apB (bx b b.high b.words (p++y::q)) (r6 m)=bx b b.high b.words (p++m::q):=by
      unfold apB;rw [if_neg (show ¬ (r6 m).kind=1 from (by decide : ¬ (6:Int)=1)),if_neg (show ¬ (r6 m).kind=4 from (by decide : ¬ (6:Int)=4)),if_neg (show ¬ (r6 m).kind=7 from (by decide : ¬ (6:Int)=7)),if_neg (show ¬ (r6 m).kind=5 from (by decide : ¬ (6:Int)=5)),if_neg (show ¬ (r6 m).kind=3 from (by decide : ¬ (6:Int)=3)),if_neg (show ¬ (r6 m).kind=2 from (by decide : ¬ (6:Int)=2))];show (⟨b.id,b.valid,b.next,max b.high m.mod,b.words,upd m.uid _ (p++y::q)⟩:Box)=_;rw [hmax,upd_here y1 hp hq];show bx b b.high b.words (p++(⟨y.uid,m.mod,y.date,y.id,y.flags,y.keys,y.text⟩:Msg)::q)=_;rw [y1,y2,y3,y4,y5,y6]
    exact go_row (l:=rest) he hB
  · rw [if_neg hC]
    have hy:y=m:=Msg.same.1 ⟨y1,by
      rcases y7 with h | ⟨h,h2⟩
      · exact h
      · rw [h2]
        unfold on1;cases hc:f.c with
        | true=>rfl
        | false =>
          by_cases e:m.mod=1
          · rw [e]; rfl
          · exact absurd ⟨hc,h,e⟩ hC,y2,y3,y4,y5,y6⟩
    subst hy;exact⟨rfl,hb2⟩
theorem msgs_go {f:Fm} {b:Box} (rest:List Row) : ∀ (q p:List Msg),(∀ m∈q,okOne b m)->Rises (p++q)->mbE (bx b b.high b.words (p++q.map (pmj f b.id)))=0 ->
    allG (bx b b.high b.words (p++q.map (pmj f b.id))) (q.flatMap (reM f b.id)++rest)=allG (bx b b.high b.words (p++q)) rest
  | [],p,_,_,_=>by simp
  | m::q,p,h1,h2,hb=>by
    have h3:=h2;unfold Rises at h3;rw [List.pairwise_append,List.pairwise_cons] at h3;obtain⟨g1,⟨g2,g3⟩,g4⟩:=h3;rw [List.map_cons] at hb ⊢;rw [List.flatMap_cons,List.append_assoc]
    obtain⟨e1,e2⟩:=msg_go (f:=f) (b:=b) (p:=p) (q:=q.map (pmj f b.id)) (m:=m) (q.flatMap (reM f b.id)++rest) (h1 m (by simp)) rfl (fun y hy=>by have:=g4 y hy m (by simp); omega) (fun y hy=>by
      obtain⟨z,hz,rfl⟩:=List.mem_map.1 hy;have:=g2 z hz;show z.uid≠m.uid;omega) hb
    rw [e1];have e3:=msgs_go (f:=f) (b:=b) rest q (p++[m]) (fun y hy=>h1 y (by simp [hy])) (by simpa using h2) (by simpa using e2);simpa using e3
theorem whole_gen {f:Fm} {b:Box} (hf:Is f) (h:mbE b=0) (rest:List Row):allG (pj f b) (re f b++rest)=allG b rest:=by
  have hp:=pj_may hf h;obtain⟨h1,h2,h3,h4,h5,h6⟩:=(mb_iff b).1 h;obtain⟨p1,p2,p3,p4,p5⟩:=head_parts h1;unfold re;rw [List.append_assoc,List.append_assoc]
  -- High
  have A:allG (pj f b) (reH f b++(reW f b++(b.msgs.flatMap (reM f b.id)++rest)))=allG (bx b b.high (b.words.take f.w) (b.msgs.map (pmj f b.id))) (reW f b++(b.msgs.flatMap (reM f b.id)++rest))/\mbE (bx b b.high (b.words.take f.w) (b.msgs.map (pmj f b.id)))=0:=by
    unfold reH;by_cases hH:f.c=false/\b.high≠1
    · rw [if_pos hH]
      have hon:on1 f.c b.high=1:=by unfold on1; rw [hH.1]; rfl
      refine go_row ?_ ?_
      · unfold apE
        rw [if_neg (by simp [hp]),if_neg (show ¬ (r7 b.high).kind=1 from (by decide : ¬ (7:Int)=1)),if_neg (show ¬ (r7 b.high).kind=4 from (by decide : ¬ (7:Int)=4)),if_pos (show (r7 b.high).kind=7 from rfl),if_pos (show modB (r7 b.high).mod=true from inB_true p4.1 p4.2)]
      · unfold apB
        rw [if_neg (show ¬ (r7 b.high).kind=1 from (by decide : ¬ (7:Int)=1)),if_neg (show ¬ (r7 b.high).kind=4 from (by decide : ¬ (7:Int)=4)),if_pos (show (r7 b.high).kind=7 from rfl)];show (⟨b.id,b.valid,b.next,max (on1 f.c b.high) b.high,b.words.take f.w,b.msgs.map (pmj f b.id)⟩:Box)=_;rw [hon,show max 1 b.high=b.high by omega];rfl
    · rw [if_neg hH]
      have hon:on1 f.c b.high=b.high:=by
        unfold on1;cases hc:f.c with
        | true=>rfl
        | false =>
          by_cases e:b.high=1
          · rw [e]; rfl
          · exact absurd ⟨hc,e⟩ hH
      have e:pj f b=bx b b.high (b.words.take f.w) (b.msgs.map (pmj f b.id)):=by unfold pj bx; rw [hon]
      rw [<- e];exact⟨rfl,hp⟩
  obtain⟨a1,a2⟩:=A;rw [a1];obtain⟨w1,w2⟩:=(wordsB_iff _).1 h4;have B:=words_go b b.high (b.msgs.map (pmj f b.id)) (b.msgs.flatMap (reM f b.id)++rest) (b.words.drop f.w) (b.words.take f.w) (fun x hx=>w1 x (List.mem_of_mem_drop hx)) (by rw [List.take_append_drop]; exact w2) (by rw [List.take_append_drop]; exact h2) a2;rw [List.take_append_drop] at B;unfold reW;rw [B.1];have C:=msgs_go (f:=f) (b:=b) rest b.msgs [] h5 (by simpa using h6) (by simpa using B.2);have e:bx b b.high b.words b.msgs=b:=rfl;rw [List.nil_append,List.nil_append,e] at C;exact C
theorem whole_re {f:Fm} {b:Box} (hf:Is f) (h:mbE b=0):allG (pj f b) (re f b)=(b,0):=by
  have:=whole_gen hf h []
  rwa [List.append_nil] at this
end Go.Proofs.YtoljpfapphoflaaGreatDoor.ImD

set_option maxRecDepth 512
namespace Go.Proofs.YtoljpfapphoflaaGreatDoor.ImR
open Go.RowKit BxD BxOp OlD RwD ImD
end Go.Proofs.YtoljpfapphoflaaGreatDoor.ImR
