/-
  RfA + SfB + SfD + SfT
-/
import Derived.Test.YtoljpfapphoflaaGreatDoorR2
import Derived.Test.YtoljpfapphoflaaGreatDoorR1
import Derived.Test.YtoljpfapphoflaaGreatDoorJ1
set_option linter.unusedVariables false
set_option linter.unusedSimpArgs false
set_option maxRecDepth 512
namespace Go.Proofs.YtoljpfapphoflaaGreatDoor.RfA
open Go.RowKit BxD BxKit RkO RkC RkD RkR RkK RkP RkQ RkE
def ge (a b:ByteArray):Bool:=!Op.bytesLess a.toList b.toList
theorem ge_iff {a b:ByteArray} : ge a b=true↔¬ cmpS a b<0:=by
 unfold ge;rw [cmpS_neg];cases Op.bytesLess a.toList b.toList <;> simp
def rp (n:ByteArray) (d:List UInt8):List F->Bool->List F
 | [],dn=>if dn then [] else [(n,d)]
 | f::r,dn=>(if !dn&&ge f.1 n then [(n,d)] else [])++((if decide (f.1=n) then [] else [f])++rp n d r (dn||ge f.1 n))
theorem rp_true {n:ByteArray} {d:List UInt8} : ∀ {r:List F},(∀ g∈r,g.1≠n)->rp n d r true=r
 | [],_=>rfl
 | f::r,h=>by
  unfold rp;rw [decide_eq_false (h f (List.mem_cons_self ..)),Bool.true_or,rp_true fun g hg=>h g (List.mem_cons_of_mem _ hg)];simp
theorem srt_ne {f:F} {r:List F} {n:ByteArray} (hs:SrtF (f::r)) (h : ¬ cmpS f.1 n<0) : ∀ g∈r,g.1≠n:=fun g hg e=>by
 have:=(List.pairwise_cons.1 hs).1 g hg;rw [e] at this;exact h this
theorem lo_up {f:F} {r:List F} {n:ByteArray} (h:cmpS f.1 n<0):lo cmpS n (f::r)=lo cmpS n r+1:=by
 refine lo_eq cmpS n (f::r) _ (by have:=lo_le cmpS n r; simp; omega) ?_ ?_
 · intro j p hj hp
   cases j with
   | zero => obtain rfl:f=p:=by simpa using hp
             exact h
   | succ j=>exact lo_below cmpS n r j p (by omega) (by simpa using hp)
 · intro p hp
   exact lo_at cmpS n r p (by simpa using hp)
theorem lo_here {f:F} {r:List F} {n:ByteArray} (h : ¬ cmpS f.1 n<0):lo cmpS n (f::r)=0 :=
 lo_eq cmpS n (f::r) 0 (Nat.zero_le _) (fun j p hj=>absurd hj (Nat.not_lt_zero _)) fun p hp=>by
  obtain rfl:f=p:=by simpa using hp
  exact h
theorem hit_up {f:F} {r:List F} {n:ByteArray} (h:cmpS f.1 n<0):hitF n (f::r)=hitF n r:=by
 unfold hitF hit;rw [lo_up h,List.getElem?_cons_succ]
theorem hit_here {f:F} {r:List F} {n:ByteArray} (h : ¬ cmpS f.1 n<0):hitF n (f::r)=decide (f.1=n):=by
 unfold hitF hit;rw [lo_here h];by_cases e:f.1=n
 · simp [e,(ordS.eq0 n n).2 rfl]
 · simp [e,show ¬ cmpS f.1 n=0 from fun h=>e ((ordS.eq0 _ _).1 h)]
theorem rp_put {n:ByteArray} {d:List UInt8} : ∀ {l:List F},SrtF l->rp n d l false=putF n d l
 | [],_=>by unfold rp putF put; simp [hit,lo,ins]
 | f::r,hs=>by
  have hr:SrtF r:=(List.pairwise_cons.1 hs).2;by_cases h:cmpS f.1 n<0
  · have hg:ge f.1 n=false:=by
     cases hg:ge f.1 n with
     | false=>rfl
     | true=>exact absurd h (ge_iff.1 hg)
    have hn:f.1≠n:=fun e=>by
     rw [e,(ordS.eq0 n n).2 rfl] at h;exact absurd h (by decide)
    unfold rp;rw [hg,decide_eq_false hn,Bool.or_false,rp_put hr];have hh:=hit_up (r:=r) h;unfold putF put;rw [show hit cmpS n (f::r)=hit cmpS n r from hh];unfold upd ins;rw [lo_up h];cases hit cmpS n r <;> simp
  · have hg:=ge_iff.2 h
    unfold rp;rw [hg,Bool.false_or,rp_true (srt_ne hs h)];unfold putF put;rw [show hit cmpS n (f::r)=decide (f.1=n) from hit_here h];unfold upd ins;rw [lo_here h];by_cases e:f.1=n <;> simp [e]
def rc (n:ByteArray) (l:List F):List F:=l.filter fun f=>!decide (f.1=n)
theorem rc_cut {n:ByteArray} : ∀ {l:List F},SrtF l->rc n l=cutF n l
 | [],_=>by unfold rc cutF cut; simp [hit,lo]
 | f::r,hs=>by
  have hr:SrtF r:=(List.pairwise_cons.1 hs).2;by_cases h:cmpS f.1 n<0
  · have hn:f.1≠n:=fun e=>by
     rw [e,(ordS.eq0 n n).2 rfl] at h;exact absurd h (by decide)
    have ih:=rc_cut (n:=n) hr;unfold rc at ih ⊢;rw [List.filter_cons_of_pos (by simpa using hn),ih];unfold cutF cut;rw [show hit cmpS n (f::r)=hit cmpS n r from hit_up h,lo_up h];cases hit cmpS n r <;> simp
  · have hr0:rc n r=r:=List.filter_eq_self.2 fun g hg=>by simpa using srt_ne hs h g hg
    unfold rc at hr0 ⊢;unfold cutF cut;rw [show hit cmpS n (f::r)=decide (f.1=n) from hit_here h,lo_here h];by_cases e:f.1=n
    · rw [List.filter_cons_of_neg (by simpa using e),hr0]; simp [e]
    · rw [List.filter_cons_of_pos (by simpa using e),hr0]; simp [e]
theorem at_hit {n:ByteArray} {l:List F} {k:Nat} {f:F} (hs:SrtF l) (h:l[k]? = some f) (e:f.1=n):hitF n l=true/\lo cmpS n l=k:=by
 have hk:k<l.length:=(List.getElem?_eq_some_iff.1 h).1;have hl:lo cmpS n l=k:=by
  refine lo_eq cmpS n l k (by omega) (fun j p hj hp=>?_) fun p hp=>?_
  · obtain⟨h1,e1⟩:=List.getElem?_eq_some_iff.1 hp
    obtain⟨h2,e2⟩:=List.getElem?_eq_some_iff.1 h;have:=(List.pairwise_iff_getElem.1 hs) j k h1 h2 hj;rw [e1,e2,e] at this;exact this
  · rw [h] at hp
    obtain rfl:=Option.some.inj hp;rw [e,(ordS.eq0 n n).2 rfl];decide
 refine⟨?_,hl⟩;unfold hitF hit;rw [hl,h];exact decide_eq_true ((ordS.eq0 _ _).2 e)
end Go.Proofs.YtoljpfapphoflaaGreatDoor.RfA

set_option maxRecDepth 512
namespace Go.Proofs.YtoljpfapphoflaaGreatDoor.SfB
open Go.RowKit PkKit PkA PkB PkD PkF RkD
abbrev Sr:=List UInt8 × Nat × Bool
def txtS (m:Int) (s:Sr):ByteArray × Sr:=if s.2.1≠0 then (⟨#[]⟩,s) else (⟨(tz s.1 m).1.toArray⟩,((tz s.1 m).2.1,(tz s.1 m).2.2,s.2.2))
def firstS (s:Sr):Nat:=if s.2.2 then 3 else s.2.1
def nums (zs:List Int):List UInt8:=zs.flatMap fun z=>Lib.uvarint (cl z)
theorem nums_snoc {zs:List Int} {k:Nat} {x:Int} (h:zs[k]? = some x):nums (zs.take (k+1))=nums (zs.take k)++Lib.uvarint (cl x):=by
 obtain⟨hl,rfl⟩:=List.getElem?_eq_some_iff.1 h;unfold nums;rw [List.take_succ_eq_append_getElem hl,List.flatMap_append];simp
theorem nums_len (zs:List Int):(nums zs).length<=6*zs.length:=by
 induction zs with
 | nil=>exact Nat.le_refl _
 | cons z zs ih =>
  have h1:=uv_len (cl_le z);unfold nums at ih ⊢;rw [List.flatMap_cons,List.length_append,List.length_cons];omega
theorem nums_one (z:Int):nums [z]=Lib.uvarint (cl z):=by simp [nums]
def numV (s:Sr):Nat × Sr:=if s.2.1≠0 then (0,s) else ((ps s.1).1,(s.1.drop (ps s.1).2.1,(ps s.1).2.2,s.2.2))
def ntS (m:Nat) (s:Sr):Nat × Sr:=if m<(numV s).1 then (0,((numV s).2.1,(numV s).2.2.1,true)) else numV s
theorem nt_le (m:Nat) (s:Sr):(ntS m s).1<=m:=by
 unfold ntS;split
 · exact Nat.zero_le _
 · omega
theorem tz_gen {s:ByteArray} {m:Nat} (h:s.size<=m) (hm:m<=1099511627776) (rest:List UInt8):tz (tx s++rest) m=(s.data.toList,rest,0):=by
 have hl:s.data.toList.length=s.size:=by rw [Array.length_toList]; rfl
 have hp:ps (tx s++rest)=(s.size,(Lib.uvarint s.size).length,0):=by
  unfold tx;rw [List.append_assoc];exact ps_uv (by omega) _
 unfold tz;rw [hp];have h1 : ¬ ((m:Int)<((s.size:Nat):Int)):=by omega
 have h2 : ¬ (tx s++rest).length<(Lib.uvarint s.size).length+s.size:=by
  unfold tx;rw [List.length_append,List.length_append];omega
 simp only [ne_eq,not_true_eq_false,if_false,if_neg h1,if_neg h2];unfold tx;rw [List.append_assoc,List.drop_left' rfl,<- hl,List.take_left' rfl,<- List.append_assoc,List.drop_left' (by rw [List.length_append])]
def Okk (s:Sr):Prop:=s.2.1=0/\s.2.2=false
def Rv (s:Sr) (l:List UInt8) (s':Sr):Prop:=Okk s'->Okk s/\s.1=l++s'.1
theorem Rv.trans {s s1 s2:Sr} {a b:List UInt8} (h:Rv s a s1) (k:Rv s1 b s2):Rv s (a++b) s2:=fun o=>by
 obtain⟨o1,e1⟩:=k o;obtain⟨o0,e0⟩:=h o1;exact⟨o0,by rw [e0,e1,List.append_assoc]⟩
theorem nt_rv {m:Nat} (hm:m<=1099511627776) (s:Sr):Rv s (nums [(((ntS m s).1:Nat):Int)]) (ntS m s).2:=by
 obtain⟨l,er,ov⟩:=s;rintro ⟨h1,h2⟩;have hle:=nt_le m (l,er,ov);rw [nums_one,cl_nat (by omega)];unfold ntS at h1 h2 hle ⊢;split at h2
 · cases h2
 rename_i hn;rw [if_neg hn] at h1 hle ⊢;unfold numV at h1 h2 hn ⊢;by_cases h0:er=0
 · subst h0
   simp only [ne_eq,not_true_eq_false,if_false] at h1 h2 ⊢;obtain⟨y,r,e1,e2,_,_⟩:=ps_ok h1;refine⟨⟨rfl,h2⟩, ?_⟩;rw [e2];simp only;rw [e1,List.drop_left' rfl]
 · simp only [ne_eq,h0,not_false_eq_true,if_true] at h1
theorem txt_rv {m:Int} (s:Sr):Rv s (tx (txtS m s).1) (txtS m s).2:=by
 obtain⟨l,er,ov⟩:=s;rintro ⟨h1,h2⟩;unfold txtS at h1 h2 ⊢;by_cases h0:er=0
 · subst h0
   simp only [ne_eq,not_true_eq_false,if_false] at h1 h2 ⊢;unfold tz at h1 ⊢;by_cases hp:(ps l).2.2=0
   · obtain⟨y,r,e1,e2,_,_⟩:=ps_ok hp
     rw [if_neg (by simpa using hp)] at h1 ⊢;by_cases hm:(m:Int)<((ps l).1:Nat)
     · rw [if_pos hm] at h1
       cases h1
     rw [if_neg hm] at h1 ⊢;by_cases hl:l.length<(ps l).2.1+(ps l).1
     · rw [if_pos hl] at h1
       cases h1
     rw [if_neg hl] at h1 ⊢;refine⟨⟨rfl,h2⟩, ?_⟩;simp only;rw [e2] at hl ⊢;simp only at hl ⊢;rw [e1] at hl ⊢;rw [List.length_append] at hl;rw [List.drop_left' rfl,<- List.drop_drop,List.drop_left' rfl];unfold tx;have hs:((⟨(r.take y).toArray⟩:ByteArray)).size=y:=by
      show (r.take y).toArray.size=y;rw [List.size_toArray,List.length_take]; omega
     rw [hs];simp
   · rw [if_pos (by simpa using hp)] at h1
     exact absurd h1 hp
 · simp only [ne_eq,h0,not_false_eq_true,if_true] at h1
theorem first_ok {s:Sr} : firstS s=0↔Okk s:=by
 obtain⟨l,er,ov⟩:=s;unfold firstS Okk;cases ov <;> simp
def baL (d:List UInt8):ByteArray:=⟨d.toArray⟩
theorem ba_size (d:List UInt8):(baL d).size=d.length:=List.size_toArray
theorem ba_back (s:ByteArray):baL s.data.toList=s:=rfl
def chB (c:Ch):List UInt8:=if c.cut then nums [1]++tx c.name else nums [0]++tx c.name++tx (baL c.data)
def bsL (l:List Ch):List UInt8:=l.flatMap chB
theorem bsL_append (a b:List Ch):bsL (a++b)=bsL a++bsL b:=by unfold bsL; rw [List.flatMap_append]
theorem bsL_snoc {l:List Ch} {k:Nat} {c:Ch} (h:l[k]? = some c):bsL (l.take (k+1))=bsL (l.take k)++chB c:=by
 obtain⟨hl,rfl⟩:=List.getElem?_eq_some_iff.1 h;rw [List.take_succ_eq_append_getElem hl,bsL_append];simp [bsL]
def rdC (s:Sr):Ch × Sr :=
 if (ntS 1 s).1=1 then (⟨(txtS 24 (ntS 1 s).2).1,true,[]⟩,(txtS 24 (ntS 1 s).2).2)
 else (⟨(txtS 24 (ntS 1 s).2).1,false,(txtS 200000 (txtS 24 (ntS 1 s).2).2).1.data.toList⟩,(txtS 200000 (txtS 24 (ntS 1 s).2).2).2)
def pa:Nat->List UInt8->List Ch × Nat
 | 0,_=>([],0)
 | k+1,l=>if l=[] then ([],0) else if firstS (rdC (l,0,false)).2≠0 then ([],firstS (rdC (l,0,false)).2)
  else if (pa k (rdC (l,0,false)).2.1).2≠0 then ([],(pa k (rdC (l,0,false)).2.1).2) else ((rdC (l,0,false)).1::(pa k (rdC (l,0,false)).2.1).1,0)
theorem rd_rv (s:Sr):Rv s (chB (rdC s).1) (rdC s).2:=by
 have h1:=nt_rv (m:=1) (by decide) s;have h2:=txt_rv (m:=24) (ntS 1 s).2;have h3:=txt_rv (m:=200000) (txtS 24 (ntS 1 s).2).2;have hle:=nt_le 1 s;unfold rdC;by_cases h:(ntS 1 s).1=1
 · rw [if_pos h]
   rw [h] at h1;unfold chB;exact h1.trans h2
 · rw [if_neg h]
   rw [show (ntS 1 s).1=0 by omega] at h1;unfold chB;rw [if_neg (by simp),ba_back];exact (h1.trans h2).trans h3
theorem chB_pos (c:Ch):0<(chB c).length:=by
 unfold chB;have h1:=Lib.uvarint_pos (cl 1);have h0:=Lib.uvarint_pos (cl 0);split
 · rw [List.length_append,nums_one]; omega
 · rw [List.length_append,List.length_append,nums_one]; omega
theorem rd_less {l:List UInt8} (h:firstS (rdC (l,0,false)).2=0):(rdC (l,0,false)).2.1.length<l.length:=by
 have h1:=(rd_rv (l,0,false) (first_ok.1 h)).2;have h2:=chB_pos (rdC (l,0,false)).1;have h3:=congrArg List.length h1;rw [List.length_append] at h3;simp only at h3;omega
theorem pa_more : ∀ (k:Nat) (l:List UInt8),l.length<=k->pa k l=pa l.length l
 | 0,l,h=>by rw [show l.length=0 by omega]
 | k+1,l,h=>by
  cases hl:l with
  | nil=>rfl
  | cons a r =>
   rw [<- hl];have hne:l≠[]:=by rw [hl]; exact List.cons_ne_nil _ _
   have hlen:l.length=r.length+1:=by rw [hl]; rfl
   rw [hlen];unfold pa;rw [if_neg hne,if_neg hne];by_cases he:firstS (rdC (l,0,false)).2=0
   · have hls:=rd_less he
     have e1:=pa_more k (rdC (l,0,false)).2.1 (by omega);have e2:=pa_more r.length (rdC (l,0,false)).2.1 (by omega);rw [e1,e2]
   · rw [if_pos he,if_pos he]
def parse (l:List UInt8):List Ch × Nat:=pa l.length l
theorem parse_nil:parse []=([],0):=rfl
theorem parse_bad {l:List UInt8} (hl:l≠[]) (h:firstS (rdC (l,0,false)).2≠0):parse l=([],firstS (rdC (l,0,false)).2):=by
 unfold parse;obtain⟨a,r,rfl⟩:=List.exists_cons_of_ne_nil hl;rw [List.length_cons];unfold pa;rw [if_neg hl,if_pos h]
theorem parse_step {l:List UInt8} (hl:l≠[]) (h:firstS (rdC (l,0,false)).2=0) :
 parse l=if (parse (rdC (l,0,false)).2.1).2≠0 then ([],(parse (rdC (l,0,false)).2.1).2) else ((rdC (l,0,false)).1::(parse (rdC (l,0,false)).2.1).1,0):=by
 have hls:=rd_less h;unfold parse;obtain⟨a,r,rfl⟩:=List.exists_cons_of_ne_nil hl;rw [List.length_cons] at hls ⊢;have e:=pa_more r.length (rdC (a::r,0,false)).2.1 (by omega);rw [<- e]
 conv=>lhs; unfold pa
 rw [if_neg hl,if_neg (by simpa using h)]
def mid (xs:List Ch) (p:List Ch × Nat):List Ch × Nat:=if p.2≠0 then ([],p.2) else (xs++p.1,0)
theorem mid_nil (l:List UInt8):mid [] (parse l)=parse l:=by
 unfold mid;by_cases h:(parse l).2=0
 · rw [if_neg (by simpa using h),List.nil_append]
   exact Prod.ext rfl h.symm
 · rw [if_pos h]
   unfold parse at h ⊢;cases hl:l.length with
   | zero=>rw [hl] at h; exact absurd rfl h
   | succ k =>
    rw [hl] at h;unfold pa at h ⊢;split at h
    · exact absurd rfl h
    · rename_i h1
      rw [if_neg h1];split at h
      · rename_i h2
        rw [if_pos h2]
      · rename_i h2
        rw [if_neg h2];split at h
        · rename_i h3
          rw [if_pos h3]
        · exact absurd rfl h
theorem mid_step {xs:List Ch} {l:List UInt8} (hl:l≠[]) (h:firstS (rdC (l,0,false)).2=0):mid xs (parse l)=mid (xs++[(rdC (l,0,false)).1]) (parse (rdC (l,0,false)).2.1):=by
 rw [parse_step hl h];unfold mid;by_cases h0:(parse (rdC (l,0,false)).2.1).2=0
 · simp [h0]
 · simp [h0]
theorem mid_bad {xs:List Ch} {l:List UInt8} (hl:l≠[]) (h:firstS (rdC (l,0,false)).2≠0):mid xs (parse l)=([],firstS (rdC (l,0,false)).2):=by
 rw [parse_bad hl h];unfold mid;simp [h]
theorem mid_end (xs:List Ch):mid xs (parse [])=(xs,0):=by simp [mid,parse_nil]
end Go.Proofs.YtoljpfapphoflaaGreatDoor.SfB

set_option maxRecDepth 512
namespace Go.Proofs.YtoljpfapphoflaaGreatDoor.SfD
open Go.RowKit RkO RkC RkD BxD
abbrev nR:ByteArray:=⟨#[61,114,101,100,111]⟩
theorem okR:okN nR=true:=by decide
def doE (s:St) (c:Ch):Int:=if c.cut then (if hitF c.name s.files then ctE s c.name else 0) else wrE s c.name c.data
def doS (s:St) (c:Ch):St:=if c.cut then (if hitF c.name s.files then ctS s c.name else s) else wrS s c.name c.data
def dosE (s:St):List Ch->Int
 | []=>0
 | c::r=>if doE s c≠0 then doE s c else dosE (doS s c) r
def dosS (s:St):List Ch->St
 | []=>s
 | c::r=>if doE s c≠0 then doS s c else dosS (doS s c) r
def endE (s:St):Int:=if flE s≠0 then flE s else if ctE (flS s) nR≠0 then ctE (flS s) nR else flE (ctS (flS s) nR)
def endS (s:St):St:=if flE s≠0 then flS s else if ctE (flS s) nR≠0 then ctS (flS s) nR else flS (ctS (flS s) nR)
def finE (s:St) (l:List Ch):Int:=if dosE s l≠0 then dosE s l else endE (dosS s l)
def finS (s:St) (l:List Ch):St:=if dosE s l≠0 then dosS s l else endS (dosS s l)
theorem dosS_snoc {l:List Ch} {c:Ch} : ∀ {s:St},dosE s l=0->dosE s (l++[c])=doE (dosS s l) c/\dosS s (l++[c])=doS (dosS s l) c:=by
 induction l with
 | nil =>
  intro s _;simp only [List.nil_append,dosE,dosS];by_cases h:doE s c=0 <;> simp [h]
 | cons a r ih =>
  intro s h;simp only [List.cons_append,dosE,dosS] at h ⊢;by_cases h0:doE s a=0
  · simp only [h0,ne_eq,not_true_eq_false,if_false] at h ⊢
    exact ih h
  · simp only [ne_eq,h0,not_false_eq_true,if_true] at h
theorem dosS_stop {l m:List Ch} : ∀ {s:St},dosE s l≠0->dosE s (l++m)=dosE s l/\dosS s (l++m)=dosS s l:=by
 induction l with
 | nil=>intro s h; exact absurd rfl h
 | cons a r ih =>
  intro s h;simp only [List.cons_append,dosE,dosS] at h ⊢;by_cases h0:doE s a=0
  · simp only [h0,ne_eq,not_true_eq_false,if_false] at h ⊢
    exact ih h
  · simp only [ne_eq,h0,not_false_eq_true,if_true]
    exact⟨trivial,trivial⟩
def mxu (n:ByteArray) (c:Nat):List (ByteArray × Nat)->List (ByteArray × Nat)
 | []=>[(n,c)]
 | p::r=>if p.1=n then (n,max p.2 c)::r else p::mxu n c r
def cst (n:ByteArray) (d:List UInt8):Nat:=n.size+d.length+8
def gr1 (l:List F) (m:List (ByteArray × Nat)):List (ByteArray × Nat):=l.foldl (fun m f=>mxu f.1 (cst f.1 f.2) m) m
def gr2 (l:List Ch) (m:List (ByteArray × Nat)):List (ByteArray × Nat):=l.foldl (fun m c=>if c.cut then m else mxu c.name (cst c.name c.data) m) m
def grt (s:St) (b:List UInt8) (l:List Ch):List (ByteArray × Nat):=gr2 l (mxu nR (cst nR b) (gr1 s.files []))
def sum2 (m:List (ByteArray × Nat)):Nat:=(m.map (·.2)).sum
def chBad (c:Ch):Bool:=decide (c.name=nR)||(decide (c.name.size=0)||(decide (24<c.name.size)||decide (200000<c.data.length)))
def mayL (l:List Ch):Bool:=l.all (fun c=>!chBad c)&&decide ((l.map (·.name)).Nodup)
def fitE (s:St) (l:List Ch):Int :=
 if s.down then 5 else if !mayL l then 1 else if 200000<(SfB.bsL l).length then 4
 else if 40<(grt s (SfB.bsL l) l).length\/s.room<sum2 (grt s (SfB.bsL l) l) then 4 else 0
end Go.Proofs.YtoljpfapphoflaaGreatDoor.SfD

set_option maxRecDepth 512
namespace Go.Proofs.YtoljpfapphoflaaGreatDoor.SfT
open Go.RowKit RkO RkC RkD RfA SfB SfD
def lkF (l:List F) (n:ByteArray):Option (List UInt8):=(l.find? fun f=>decide (f.1=n)).map (·.2)
theorem uniq {l:List F} (hs:SrtF l) {f g:F} (hf:f∈l) (hg:g∈l) (e:f.1=g.1):f=g:=by
 induction hs with
 | nil=>simp at hf
 | cons hx _ ih =>
  have hne : ∀ {a b:F},cmpS a.1 b.1<0->a.1≠b.1:=fun h e=>by
   rw [e,ordS.refl] at h;exact absurd h (by decide)
  rcases List.mem_cons.1 hf with h1 | h1
  · rcases List.mem_cons.1 hg with h2 | h2
    · rw [h1,h2]
    · exact absurd e (by rw [h1]; exact hne (hx g h2))
  · rcases List.mem_cons.1 hg with h2 | h2
    · exact absurd e.symm (by rw [h2]; exact hne (hx f h1))
    · exact ih h1 h2
theorem look_iff {l:List F} (hs:SrtF l) {n:ByteArray} {d:List UInt8} : lkF l n=some d↔(n,d)∈l:=by
 unfold lkF;constructor
 · intro h
   cases hf:l.find? (fun f=>decide (f.1=n)) with
   | none=>rw [hf] at h; cases h
   | some f =>
    rw [hf] at h;have h1:=List.mem_of_find?_eq_some hf;have h2:f.1=n:=by simpa using List.find?_some hf
    have h3:f.2=d:=by simpa using h
    rw [<- h2,<- h3];exact h1
 · intro h
   cases hf:l.find? (fun f=>decide (f.1=n)) with
   | none=>exact absurd (decide_eq_true rfl) (List.find?_eq_none.1 hf _ h)
   | some f =>
    have h1:=List.mem_of_find?_eq_some hf;have h2:f.1=n:=by simpa using List.find?_some hf
    rw [uniq hs h1 h h2]; rfl
theorem look_none {l:List F} {n:ByteArray} : lkF l n=none↔n∉l.map (·.1):=by
 unfold lkF;rw [Option.map_eq_none_iff,List.find?_eq_none];constructor
 · intro h hm
   obtain⟨f,hf,e⟩:=List.mem_map.1 hm;exact h f hf (decide_eq_true e)
 · intro h f hf e
   exact h (List.mem_map.2 ⟨f,hf,of_decide_eq_true e⟩)
theorem sorted_ext : ∀ {a b:List F},SrtF a->SrtF b->(∀ x,x∈a↔x∈b)->a=b
 | [],[],_,_,_=>rfl
 | [],y::b,_,_,h=>by have:=(h y).2 (List.mem_cons_self ..); simp at this
 | x::a,[],_,_,h=>by have:=(h x).1 (List.mem_cons_self ..); simp at this
 | x::a,y::b,ha,hb,h=>by
  have ha':=List.pairwise_cons.1 ha;have hb':=List.pairwise_cons.1 hb;have hirr : ∀ f:F,¬ cmpS f.1 f.1<0:=fun f h=>by rw [ordS.refl] at h; exact absurd h (by decide)
  have hxy:x=y:=by
   rcases List.mem_cons.1 ((h x).1 (List.mem_cons_self ..)) with e | e
   · exact e
   · rcases List.mem_cons.1 ((h y).2 (List.mem_cons_self ..)) with e2 | e2
     · exact e2.symm
     · exact absurd (ordS.trans _ _ _ (ha'.1 y e2) (hb'.1 x e)) (hirr x)
  subst hxy
  congr 1
  refine sorted_ext ha'.2 hb'.2 fun z=>⟨fun hz=>?_,fun hz=>?_⟩
  · rcases List.mem_cons.1 ((h z).1 (List.mem_cons_of_mem _ hz)) with e | e
    · exact absurd (ha'.1 z hz) (by rw [e]; exact hirr x)
    · exact e
  · rcases List.mem_cons.1 ((h z).2 (List.mem_cons_of_mem _ hz)) with e | e
    · exact absurd (hb'.1 z hz) (by rw [e]; exact hirr x)
    · exact e
theorem look_ext {a b:List F} (ha:SrtF a) (hb:SrtF b) (h : ∀ n,lkF a n=lkF b n):a=b :=
 sorted_ext ha hb fun x=>by
  obtain⟨n,d⟩:=x;rw [<- look_iff ha,<- look_iff hb,h]
theorem mem_rp {n:ByteArray} {d:List UInt8} {x:F} : ∀ {l:List F} {dn:Bool},x∈rp n d l dn↔(x∈l/\x.1≠n)\/(dn=false/\x=(n,d))
 | [],dn=>by cases dn <;> simp [rp]
 | f::r,dn=>by
  have ih:=mem_rp (n:=n) (d:=d) (x:=x) (l:=r) (dn:=dn||ge f.1 n);unfold rp;rw [List.mem_append,List.mem_append,ih,List.mem_cons];by_cases hn:f.1=n
  · have hg:ge f.1 n=true:=by rw [hn]; exact ge_iff.2 (by rw [ordS.refl]; decide)
    rw [hg,decide_eq_true hn];cases dn
    · simp only [Bool.not_false,Bool.true_and,if_true,List.mem_singleton,List.not_mem_nil,false_or,Bool.or_true,reduceCtorEq,false_and,or_false,true_and]
      constructor
      · rintro (h | h)
        · exact .inr h
        · exact .inl ⟨.inr h.1,h.2⟩
      · rintro (⟨h | h,h2⟩ | h)
        · exact absurd (by rw [h]; exact hn) h2
        · exact .inr ⟨h,h2⟩
        · exact .inl h
    · simp only [Bool.not_true,Bool.false_and,Bool.false_eq_true,if_false,List.not_mem_nil,false_or,if_true,Bool.true_or,reduceCtorEq,false_and,or_false]
      constructor
      · rintro ⟨h,h2⟩; exact⟨.inr h,h2⟩
      · rintro ⟨h | h,h2⟩
        · exact absurd (by rw [h]; exact hn) h2
        · exact⟨h,h2⟩
  · rw [decide_eq_false hn]
    cases hg:ge f.1 n <;> cases dn <;> simp only [Bool.not_false,Bool.not_true,Bool.true_and,Bool.false_and,Bool.false_eq_true,if_true,if_false,List.mem_singleton,List.not_mem_nil,false_or,Bool.or_true,Bool.or_false,Bool.true_or,Bool.false_or,reduceCtorEq,false_and,or_false,true_and]
    · constructor
      · rintro (h | h | h)
        · exact .inl ⟨.inl h,by rw [h]; exact hn⟩
        · exact .inl ⟨.inr h.1,h.2⟩
        · exact .inr h
      · rintro (⟨h | h,h2⟩ | h)
        · exact .inl h
        · exact .inr (.inl ⟨h,h2⟩)
        · exact .inr (.inr h)
    · constructor
      · rintro (h | h)
        · exact⟨.inl h,by rw [h]; exact hn⟩
        · exact⟨.inr h.1,h.2⟩
      · rintro ⟨h | h,h2⟩
        · exact .inl h
        · exact .inr ⟨h,h2⟩
    · constructor
      · rintro (h | h | h)
        · exact .inr h
        · exact .inl ⟨.inl h,by rw [h]; exact hn⟩
        · exact .inl ⟨.inr h.1,h.2⟩
      · rintro (⟨h | h,h2⟩ | h)
        · exact .inr (.inl h)
        · exact .inr (.inr ⟨h,h2⟩)
        · exact .inl h
    · constructor
      · rintro (h | h)
        · exact⟨.inl h,by rw [h]; exact hn⟩
        · exact⟨.inr h.1,h.2⟩
      · rintro ⟨h | h,h2⟩
        · exact .inl h
        · exact .inr ⟨h,h2⟩
theorem mem_putF {n:ByteArray} {d:List UInt8} {l:List F} (hs:SrtF l) {x:F} : x∈putF n d l↔(x∈l/\x.1≠n)\/x=(n,d):=by
 rw [<- rp_put hs,mem_rp]; simp
theorem mem_cutF {n:ByteArray} {l:List F} (hs:SrtF l) {x:F} : x∈cutF n l↔x∈l/\x.1≠n:=by
 rw [<- rc_cut hs];unfold rc;rw [List.mem_filter]; simp
theorem look_put {n:ByteArray} {d:List UInt8} {l:List F} (hs:SrtF l) (m:ByteArray):lkF (putF n d l) m=if m=n then some d else lkF l m:=by
 have hp:SrtF (putF n d l):=srt_put ordS hs;by_cases h:m=n
 · rw [if_pos h,look_iff hp,mem_putF hs,h]; exact .inr rfl
 · rw [if_neg h]
   cases hl:lkF l m with
   | some e=>exact (look_iff hp).2 ((mem_putF hs).2 (.inl ⟨(look_iff hs).1 hl,h⟩))
   | none =>
    rw [look_none] at hl ⊢;intro hm;obtain⟨f,hf,e⟩:=List.mem_map.1 hm;rcases (mem_putF hs).1 hf with h1 | h1
    · exact hl (List.mem_map.2 ⟨f,h1.1,e⟩)
    · rw [h1] at e; exact h e.symm
theorem look_cut {n:ByteArray} {l:List F} (hs:SrtF l) (m:ByteArray):lkF (cutF n l) m=if m=n then none else lkF l m:=by
 have hp:SrtF (cutF n l):=srt_cut hs;by_cases h:m=n
 · rw [if_pos h,look_none]
   intro hm;obtain⟨f,hf,e⟩:=List.mem_map.1 hm;exact ((mem_cutF hs).1 hf).2 (e.trans h)
 · rw [if_neg h]
   cases hl:lkF l m with
   | some e=>exact (look_iff hp).2 ((mem_cutF hs).2 ⟨(look_iff hs).1 hl,h⟩)
   | none =>
    rw [look_none] at hl ⊢;intro hm;obtain⟨f,hf,e⟩:=List.mem_map.1 hm;exact hl (List.mem_map.2 ⟨f,((mem_cutF hs).1 hf).1,e⟩)
theorem hit_look {n:ByteArray} {l:List F} (hs:SrtF l):hitF n l=(lkF l n).isSome:=by
 cases h:hitF n l with
 | true =>
  obtain⟨d,hv⟩:=(hit_iff ordS).1 h;rw [(look_iff hs).2 (List.mem_of_getElem? hv)]; rfl
 | false =>
  cases hl:lkF l n with
  | none=>rfl
  | some d =>
   obtain⟨j,hj⟩:=List.mem_iff_getElem?.1 ((look_iff hs).1 hl);have:=(at_hit hs hj rfl).1;rw [h] at this;cases this
theorem cut_miss {n:ByteArray} {l:List F} (h:hitF n l=false):cutF n l=l:=by unfold cutF cut; rw [show hit cmpS n l=false from h]; rfl
theorem rd_look {s:St} (hs:SrtF s.files) (n:ByteArray):rdF s n=if s.down then none else lkF s.files n:=by
 unfold rdF;cases s.down with
 | true=>rfl
 | false =>
  simp only [Bool.false_eq_true,if_false];cases hl:lkF s.files n with
  | some d =>
   obtain⟨j,hj⟩:=List.mem_iff_getElem?.1 ((look_iff hs).1 hl);have:=(at_hit hs hj rfl).2;rw [show lo cmpS (n,d).1 s.files=lo cmpS n s.files from rfl] at this;rw [this,hj];simp
  | none =>
   rw [look_none] at hl;cases hg:s.files[lo cmpS n s.files]? with
   | none=>rfl
   | some f=>simp only []; rw [if_neg fun e=>hl (List.mem_map.2 ⟨f,List.mem_of_getElem? hg,e⟩)]
theorem srt_done {l:List F} (hs:SrtF l) (c:Ch):SrtF (doneC l c):=by
 unfold doneC;split
 · exact srt_cut hs
 · exact srt_put ordS hs
theorem look_done {l:List F} (hs:SrtF l) (c:Ch) (m:ByteArray):lkF (doneC l c) m=if m=c.name then (if c.cut then none else some c.data) else lkF l m:=by
 unfold doneC;cases c.cut with
 | true=>simp only [if_true]; exact look_cut hs m
 | false=>simp only [Bool.false_eq_true,if_false]; exact look_put hs m
def dall (l:List F) (cs:List Ch):List F:=cs.foldl doneC l
theorem srt_dall : ∀ {cs:List Ch} {l:List F},SrtF l->SrtF (dall l cs)
 | [],_,h=>h
 | c::r,l,h=>srt_dall (cs:=r) (srt_done h c)
theorem look_dall_no : ∀ {cs:List Ch} {l:List F},SrtF l->∀ {m:ByteArray},m∉cs.map (·.name)->lkF (dall l cs) m=lkF l m
 | [],_,_,_,_=>rfl
 | c::r,l,hs,m,h=>by
  rw [List.map_cons,List.mem_cons] at h;have:=look_dall_no (cs:=r) (srt_done hs c) (m:=m) fun hm=>h (.inr hm);show lkF (dall (doneC l c) r) m=_;rw [this,look_done hs,if_neg fun e=>h (.inl e)]
theorem look_dall_in : ∀ {cs:List Ch} {l:List F},SrtF l->(cs.map (·.name)).Nodup->∀ {c:Ch},c∈cs->lkF (dall l cs) c.name=if c.cut then none else some c.data
 | c0::r,l,hs,hn,c,hc=>by
  rw [List.map_cons,List.nodup_cons] at hn;show lkF (dall (doneC l c0) r) c.name=_;rcases List.mem_cons.1 hc with rfl | hc
  · rw [look_dall_no (srt_done hs c) hn.1,look_done hs,if_pos rfl]
  · exact look_dall_in (cs:=r) (srt_done hs c0) hn.2 hc
def Cov (G:List (ByteArray × Nat)) (n:ByteArray) (v:Nat):Prop:=∃ p∈G,p.1=n/\v<=p.2
theorem cov_new (n:ByteArray) (c:Nat) : ∀ G,Cov (mxu n c G) n c
 | []=>⟨(n,c),by simp [mxu],rfl,Nat.le_refl _⟩
 | q::r=>by
  unfold mxu;split
  · exact⟨_,List.mem_cons_self ..,rfl,Nat.le_max_right _ _⟩
  · obtain⟨p,h1,h2⟩:=cov_new n c r
    exact⟨p,List.mem_cons_of_mem _ h1,h2⟩
theorem cov_old {n m:ByteArray} {c v:Nat} : ∀ {G},Cov G m v->Cov (mxu n c G) m v
 | q::r,⟨p,h1,h2,h3⟩=>by
  unfold mxu;split
  · rename_i e
    rcases List.mem_cons.1 h1 with rfl | h1
    · exact⟨_,List.mem_cons_self ..,by rw [<- h2,e],Nat.le_trans h3 (Nat.le_max_left _ _)⟩
    · exact⟨p,List.mem_cons_of_mem _ h1,h2,h3⟩
  · rcases List.mem_cons.1 h1 with rfl | h1
    · exact⟨_,List.mem_cons_self ..,h2,h3⟩
    · obtain⟨p',h4,h5⟩:=cov_old (G:=r) (n:=n) (c:=c) ⟨p,h1,h2,h3⟩
      exact⟨p',List.mem_cons_of_mem _ h4,h5⟩
theorem cov_gr1 : ∀ {l:List F} {G},(∀ {m v},Cov G m v->Cov (gr1 l G) m v)/\∀ f∈l,Cov (gr1 l G) f.1 (cst f.1 f.2)
 | [],G=>⟨fun h=>h,fun f hf=>by simp at hf⟩
 | f::r,G=>by
  obtain⟨h1,h2⟩:=cov_gr1 (l:=r) (G:=mxu f.1 (cst f.1 f.2) G);refine⟨fun h=>h1 (cov_old h),fun g hg=>?_⟩;rcases List.mem_cons.1 hg with rfl | hg
  · exact h1 (cov_new _ _ _)
  · exact h2 g hg
theorem cov_gr2 : ∀ {l:List Ch} {G},(∀ {m v},Cov G m v->Cov (gr2 l G) m v)/\∀ c∈l,c.cut=false->Cov (gr2 l G) c.name (cst c.name c.data)
 | [],G=>⟨fun h=>h,fun f hf=>by simp at hf⟩
 | f::r,G=>by
  obtain⟨h1,h2⟩:=cov_gr2 (l:=r) (G:=if f.cut then G else mxu f.name (cst f.name f.data) G);refine⟨fun h=>h1 (by split; exact h; exact cov_old h),fun g hg hc=>?_⟩;rcases List.mem_cons.1 hg with rfl | hg
  · exact h1 (by rw [hc]; exact cov_new _ _ _)
  · exact h2 g hg hc
theorem costs_flt {n:ByteArray} {c:Nat} : ∀ {X:List F},(X.map (·.1)).Nodup->(∀ f∈X,f.1=n->cst f.1 f.2<=c)->costs X<=c+costs (X.filter fun f=>!decide (f.1=n))/\X.length<=1+(X.filter fun f=>!decide (f.1=n)).length
 | [],_,_=>by simp [costs]
 | f::r,hn,h=>by
  rw [List.map_cons,List.nodup_cons] at hn;by_cases e:f.1=n
  · have hr:r.filter (fun f=>!decide (f.1=n))=r:=List.filter_eq_self.2 fun g hg=>by simpa using fun e2=>hn.1 (by rw [e,<- e2]; exact List.mem_map.2 ⟨g,hg,rfl⟩)
    have h1:=h f (List.mem_cons_self ..) e;rw [List.filter_cons_of_neg (by simpa using e),hr];unfold cst at h1;refine⟨?_,by rw [List.length_cons]; omega⟩;simp only [costs,List.map_cons,List.sum_cons];omega
  · obtain⟨h1,h2⟩:=costs_flt (X:=r) hn.2 (fun g hg=>h g (List.mem_cons_of_mem _ hg))
    rw [List.filter_cons_of_pos (by simpa using e)];refine⟨?_,by rw [List.length_cons,List.length_cons]; omega⟩;simp only [costs,List.map_cons,List.sum_cons] at h1 ⊢;omega
theorem cov_sum : ∀ {G:List (ByteArray × Nat)} {X:List F},(X.map (·.1)).Nodup->(∀ f∈X,Cov G f.1 (cst f.1 f.2))->(G.map (·.1)).Nodup->costs X<=sum2 G/\X.length<=G.length
 | [],X,_,h,_=>by
  cases X with
  | nil=>simp [costs,sum2]
  | cons f r=>obtain⟨p,hp,_⟩:=h f (List.mem_cons_self ..); simp at hp
 | q::r,X,hn,h,hg=>by
  rw [List.map_cons,List.nodup_cons] at hg;obtain⟨h1,h2⟩:=costs_flt (n:=q.1) (c:=q.2) hn fun f hf e=>by
   obtain⟨p,hp,e1,e2⟩:=h f hf;rcases List.mem_cons.1 hp with rfl | hp
   · exact e2
   · exact absurd (List.mem_map.2 ⟨p,hp,e1.trans e⟩) hg.1
  have hsub:((X.filter fun f=>!decide (f.1=q.1)).map (·.1)).Nodup:=List.Nodup.sublist (List.Sublist.map _ List.filter_sublist) hn;obtain⟨h3,h4⟩:=cov_sum (G:=r) hsub (fun f hf=>by
   obtain⟨hf1,hf2⟩:=List.mem_filter.1 hf;obtain⟨p,hp,e1,e2⟩:=h f hf1;rcases List.mem_cons.1 hp with rfl | hp
   · exact absurd e1.symm (by simpa using hf2)
   · exact⟨p,hp,e1,e2⟩) hg.2
  refine⟨?_,by rw [List.length_cons]; omega⟩;simp only [sum2,List.map_cons,List.sum_cons] at h3 ⊢;omega
theorem srt_nodup {l:List F} (hs:SrtF l):(l.map (·.1)).Nodup:=by
 rw [List.nodup_iff_pairwise_ne,List.pairwise_map];exact hs.imp fun h e=>by rw [e,ordS.refl] at h; exact absurd h (by decide)
end Go.Proofs.YtoljpfapphoflaaGreatDoor.SfT
