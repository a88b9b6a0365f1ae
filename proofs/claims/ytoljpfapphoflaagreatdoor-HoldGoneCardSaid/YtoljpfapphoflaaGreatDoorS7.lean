/-
  SfU + SfV + SfQ
-/
import Derived.Test.YtoljpfapphoflaaGreatDoorS1
import Derived.Test.YtoljpfapphoflaaGreatDoorS6
set_option linter.unusedVariables false
set_option linter.unusedSimpArgs false
set_option maxRecDepth 512
namespace Go.Proofs.YtoljpfapphoflaaGreatDoor.SfU
open Go.RowKit RkO RkC RkD SfB SfD SfG SfT SfO SfP
theorem gr1_nd : ∀ {l:List F} {G:Gr},Nd G->Nd (gr1 l G)
 | [],_,h=>h
 | f::r,_,h=>gr1_nd (l:=r) (h.mxu (n:=f.1) (c:=cst f.1 f.2))
theorem gr2_nd : ∀ {l:List Ch} {G:Gr},Nd G->Nd (gr2 l G)
 | [],_,h=>h
 | c::r,G,h=>by
  have e:gr2 (c::r) G=gr2 r (if c.cut then G else mxu c.name (cst c.name c.data) G):=rfl;rw [e];refine gr2_nd (l:=r) ?_;split
  · exact h
  · exact h.mxu
structure Cx (A:List F) (l:List Ch) (R:Nat):Prop where
 srt:SrtF A
 noR:lkF A nR=none
 may:mayL l=true
 len:(bsL l).length<=200000
 num:(gr2 l (mxu nR (cst nR (bsL l)) (gr1 A []))).length<=40
 sum:sum2 (gr2 l (mxu nR (cst nR (bsL l)) (gr1 A [])))<=R
structure Mid (A:List F) (l:List Ch) (X:List F):Prop where
 srt:SrtF X
 redo:lkF X nR=some (bsL l)
 rest : ∀ m,m≠nR->lkF X m=lkF A m\/lkF X m=lkF (dall A l) m
section
variable {A X : List F} {l : List Ch} {R : Nat} {s : St}
theorem Cx.ch (C:Cx A l R) {c:Ch} (hc:c∈l):okN c.name=true/\c.name≠nR/\c.data.length<=200000:=by
 have h:=C.may;unfold mayL at h;rw [Bool.and_eq_true] at h;have h1:=List.all_eq_true.1 h.1 c hc;unfold chBad at h1;simp only [Bool.not_eq_true',Bool.or_eq_false_iff,decide_eq_false_iff_not] at h1;obtain⟨h2,h3,h4,h5⟩:=h1;exact⟨decide_eq_true ⟨by omega,by omega⟩,h2,by omega⟩
theorem Cx.nod (C:Cx A l R):(l.map (·.name)).Nodup:=by
 have h:=C.may;unfold mayL at h;rw [Bool.and_eq_true] at h;exact of_decide_eq_true h.2
theorem Cx.nR_no (C:Cx A l R):nR∉l.map (·.name):=fun hm=>by
 obtain⟨c,hc,e⟩:=List.mem_map.1 hm;exact (C.ch hc).2.1 e
theorem Mid.fit (C:Cx A l R) (h:Mid A l X):costs X<=R/\X.length<=40:=by
 have hcov : ∀ f∈X,Cov (gr2 l (mxu nR (cst nR (bsL l)) (gr1 A []))) f.1 (cst f.1 f.2):=by
  intro f hf;have hl:lkF X f.1=some f.2:=(look_iff h.srt).2 hf;have hA:lkF A f.1=some f.2->Cov (gr2 l (mxu nR (cst nR (bsL l)) (gr1 A []))) f.1 (cst f.1 f.2):=fun ha=>cov_gr2.1 (cov_old (cov_gr1.2 f ((look_iff C.srt).1 ha)));by_cases hn:f.1=nR
  · have:f.2=bsL l:=by
     rw [hn,h.redo] at hl;exact (Option.some.inj hl).symm
    rw [this,hn];exact cov_gr2.1 (cov_new _ _ _)
  · rcases h.rest f.1 hn with e | e
    · exact hA (e ▸ hl)
    · by_cases hm:f.1∈l.map (·.name)
      · obtain⟨c,hc,e2⟩:=List.mem_map.1 hm
        have h2:=look_dall_in C.srt C.nod hc;rw [e2,<- e,hl] at h2;cases hcut:c.cut with
        | true=>rw [hcut] at h2; cases h2
        | false =>
         rw [hcut] at h2;have h3:f.2=c.data:=by simpa using h2
         rw [<- e2,h3];exact cov_gr2.2 c hc hcut
      · rw [look_dall_no C.srt hm] at e
        exact hA (e ▸ hl)
 have:=cov_sum (srt_nodup h.srt) hcov (gr2_nd ((gr1_nd (show Nd [] from List.Pairwise.nil)).mxu));exact⟨Nat.le_trans this.1 C.sum,Nat.le_trans this.2 C.num⟩
theorem Mid.done (C:Cx A l R) (h:Mid A l X) {c:Ch} (hc:c∈l):Mid A l (doneC X c):=by
 refine⟨srt_done h.srt c, ?_,fun m hm=>?_⟩
 · rw [look_done h.srt,if_neg fun e=>(C.ch hc).2.1 e.symm]; exact h.redo
 · rw [look_done h.srt]
   by_cases e:m=c.name
   · rw [if_pos e]
     right
     rw [e,look_dall_in C.srt C.nod hc]
   · rw [if_neg e]; exact h.rest m hm
theorem Mid.start (C:Cx A l R):Mid A l (putF nR (bsL l) A) :=
 ⟨srt_put ordS C.srt,by rw [look_put C.srt,if_pos rfl],fun m hm=>.inl (by rw [look_put C.srt,if_neg hm])⟩
structure Ph (A:List F) (l:List Ch) (R:Nat) (s:St):Prop where
 room:s.room=R
 sure:Mid A l s.sure
 files:Mid A l s.files
 loose : ∀ x∈s.loose,∃ c∈l,∀ Y,doneC Y x=doneC Y c
structure Cl (D:List F) (R:Nat) (s:St):Prop where
 room:s.room=R
 sure:s.sure=D
 files:s.files=D
 loose:s.loose=[]
 down:s.down=false
theorem go_none (c:Ch) (nx:List F) (h:s.fuse=some 0):goE s=5/\goS s c nx = { s with down:=true }:=⟨if_pos h,if_pos h⟩
theorem go_some (c:Ch) (nx:List F) (h : ¬ s.fuse=some 0):goE s=0/\goS s c nx = { s with files:=nx,loose:=s.loose++[c],writes:=s.writes+1,fuse:=s.fuse.map (· - 1) }:=⟨if_neg h,if_neg h⟩
theorem full_no (h:costs X<=R/\X.length<=40) (hr:s.room=R) {n:ByteArray} {d:List UInt8} (hx:putF n d s.files=X):wrFull s n d=false:=by
 unfold wrFull;rw [hx,decide_eq_false (by omega),decide_eq_false (by omega)]; rfl
theorem wr_bad {n:ByteArray} {d:List UInt8} (h1:okN n=true) (h2:d.length<=200000):wrBad n d=false:=by
 unfold wrBad;rw [h1,decide_eq_false (by omega)]; rfl
theorem ph_do (C:Cx A l R) (h:Ph A l R s) (hd:s.down=false) {c:Ch} (hc:c∈l) :
 (doE s c=5/\Ph A l R (doS s c)/\(doS s c).down=true/\s.fuse≠none) \/
 (doE s c=0/\Ph A l R (doS s c)/\(doS s c).down=false/\(doS s c).files=doneC s.files c/\(s.fuse=none->(doS s c).fuse=none)):=by
 obtain⟨hok,hne,hdl⟩:=C.ch hc;have hM:=h.files.done C hc;have hfit:=hM.fit C;have hnd : ¬ s.down=true:=by rw [hd]; decide
 cases hcut:c.cut with
 | true =>
  have hdn : ∀ Y,doneC Y c=cutF c.name Y:=fun Y=>by unfold doneC; rw [hcut]; rfl
  cases hh:hitF c.name s.files with
  | false =>
   have e1:doE s c=0:=by unfold doE; rw [hcut,hh]; rfl
   have e2:doS s c=s:=by unfold doS; rw [hcut,hh]; rfl
   rw [e1,e2];exact .inr ⟨rfl,h,hd,by rw [hdn,cut_miss hh],fun h=>h⟩
  | true =>
   have e1:doE s c=goE s:=by unfold doE; rw [hcut,hh]; unfold ctE; rw [hok,hd,hh]; rfl
   have e2:doS s c=goS s ⟨c.name,true,[]⟩ (cutF c.name s.files):=by unfold doS; rw [hcut,hh]; unfold ctS; rw [hok,hd,hh]; rfl
   rw [e1,e2];by_cases hf:s.fuse=some 0
   · obtain⟨g1,g2⟩:=go_none ⟨c.name,true,[]⟩ (cutF c.name s.files) hf
     rw [g1,g2];exact .inl ⟨rfl,⟨h.room,h.sure,h.files,h.loose⟩,rfl,by rw [hf]; simp⟩
   · obtain⟨g1,g2⟩:=go_some ⟨c.name,true,[]⟩ (cutF c.name s.files) hf
     rw [g1,g2];refine .inr ⟨rfl,⟨h.room,h.sure,by rw [<- hdn]; exact hM,fun x hx=>?_⟩,hd,(hdn _).symm,fun h0=>by show s.fuse.map _=none; rw [h0]; rfl⟩;rcases List.mem_append.1 hx with hx | hx
     · exact h.loose x hx
     · obtain rfl:=List.mem_singleton.1 hx
       exact⟨c,hc,fun Y=>by rw [hdn]; rfl⟩
 | false =>
  have hdn : ∀ Y,doneC Y c=putF c.name c.data Y:=fun Y=>by unfold doneC; rw [hcut]; rfl
  have hb:=wr_bad hok hdl;have hfull:=full_no hfit h.room (hdn s.files).symm;have e1:doE s c=goE s:=by unfold doE; rw [hcut]; unfold wrE; rw [hb,hd,hfull]; rfl
  have e2:doS s c=goS s ⟨c.name,false,c.data⟩ (putF c.name c.data s.files):=by unfold doS; rw [hcut]; unfold wrS; rw [hb,hd,hfull]; rfl
  rw [e1,e2];by_cases hf:s.fuse=some 0
  · obtain⟨g1,g2⟩:=go_none ⟨c.name,false,c.data⟩ (putF c.name c.data s.files) hf
    rw [g1,g2];exact .inl ⟨rfl,⟨h.room,h.sure,h.files,h.loose⟩,rfl,by rw [hf]; simp⟩
  · obtain⟨g1,g2⟩:=go_some ⟨c.name,false,c.data⟩ (putF c.name c.data s.files) hf
    rw [g1,g2];refine .inr ⟨rfl,⟨h.room,h.sure,by rw [<- hdn]; exact hM,fun x hx=>?_⟩,hd,(hdn _).symm,fun h0=>by show s.fuse.map _=none; rw [h0]; rfl⟩;rcases List.mem_append.1 hx with hx | hx
    · exact h.loose x hx
    · obtain rfl:=List.mem_singleton.1 hx
      exact⟨c,hc,fun Y=>by rw [hdn]; rfl⟩
theorem ph_dos (C:Cx A l R) : ∀ {r:List Ch} {s:St},(∀ c∈r,c∈l)->Ph A l R s->s.down=false ->
 (dosE s r=5/\Ph A l R (dosS s r)/\(dosS s r).down=true/\s.fuse≠none) \/
 (dosE s r=0/\Ph A l R (dosS s r)/\(dosS s r).down=false/\(dosS s r).files=dall s.files r/\(s.fuse=none->(dosS s r).fuse=none))
 | [],s,_,h,hd=>.inr ⟨rfl,h,hd,rfl,fun h=>h⟩
 | c::r,s,hr,h,hd=>by
  unfold dosE dosS;rcases ph_do C h hd (hr c (List.mem_cons_self ..)) with⟨e,h1,h2,h3⟩ | ⟨e,h1,h2,h3,h4⟩
  · rw [e]
    exact .inl ⟨rfl,h1,h2,h3⟩
  · rw [e]
    simp only [ne_eq,not_true_eq_false,if_false];rcases ph_dos C (r:=r) (fun x hx=>hr x (List.mem_cons_of_mem _ hx)) h1 h2 with⟨k1,k2,k3,k4⟩ | ⟨k1,k2,k3,k4,k5⟩
    · exact .inl ⟨k1,k2,k3,fun h0=>k4 (h4 h0)⟩
    · exact .inr ⟨k1,k2,k3,by rw [k4,h3]; rfl,fun h0=>k5 (h4 h0)⟩
theorem mid_all (C:Cx A l R) (h:Mid A l X):dall X l=putF nR (bsL l) (dall A l):=by
 have hsA:=srt_dall (cs:=l) C.srt;refine look_ext (srt_dall h.srt) (srt_put ordS hsA) fun m=>?_;rw [look_put hsA];by_cases e:m=nR
 · rw [if_pos e,e,look_dall_no h.srt C.nR_no]; exact h.redo
 · rw [if_neg e]
   by_cases hm:m∈l.map (·.name)
   · obtain⟨c,hc,rfl⟩:=List.mem_map.1 hm
     rw [look_dall_in h.srt C.nod hc,look_dall_in C.srt C.nod hc]
   · rw [look_dall_no h.srt hm,look_dall_no C.srt hm]
     rcases h.rest m e with e2 | e2
     · exact e2
     · rw [e2,look_dall_no C.srt hm]
theorem cut_back {D:List F} {b:List UInt8} (hs:SrtF D) (hn:lkF D nR=none):cutF nR (putF nR b D)=D:=by
 have hp:SrtF (putF nR b D):=srt_put ordS hs;refine look_ext (srt_cut hp) hs fun m=>?_;rw [look_cut hp,look_put hs];by_cases e:m=nR
 · rw [if_pos e,e,hn]
 · rw [if_neg e,if_neg e]
theorem ph_fin (C:Cx A l R) (h:Ph A l R s) (hd:s.down=false) :
 (finE s l=5/\Ph A l R (finS s l)/\(finS s l).down=true/\s.fuse≠none)\/(finE s l=0/\Cl (dall A l) R (finS s l)/\(s.fuse=none->(finS s l).fuse=none)):=by
 have hDn:lkF (dall A l) nR=none:=by rw [look_dall_no C.srt C.nR_no]; exact C.noR
 have hDs:SrtF (dall A l):=srt_dall C.srt;unfold finE finS;rcases ph_dos C (fun c hc=>hc) h hd with⟨k1,k2,k3,k4⟩ | ⟨k1,k2,k3,k4,k5⟩
 · rw [k1]
   exact .inl ⟨rfl,k2,k3,k4⟩
 · rw [k1]
   simp only [ne_eq,not_true_eq_false,if_false];rw [mid_all C h.files] at k4;obtain⟨s1,hs1⟩ : ∃ s1,s1=dosS s l:=⟨_,rfl⟩;rw [<- hs1] at k2 k3 k4 k5 ⊢;have f1:flE s1=0:=by unfold flE; rw [k3]; rfl
   have f2:flS s1 = { s1 with sure:=s1.files,loose:=[] }:=by unfold flS; rw [k3]; rfl
   have hh:hitF nR s1.files=true:=by rw [hit_look k2.files.srt,k2.files.redo]; rfl
   have c1:ctE (flS s1) nR=goE (flS s1):=by
    unfold ctE;rw [f2,okR];show (if (!true)=true then _ else if s1.down=true then _ else if (!hitF nR s1.files)=true then _ else _)=_;rw [k3,hh]; rfl
   have c2:ctS (flS s1) nR=goS (flS s1) ⟨nR,true,[]⟩ (cutF nR s1.files):=by
    unfold ctS;rw [f2,okR];show (if (!true)=true then _ else if s1.down=true then _ else if (!hitF nR s1.files)=true then _ else _)=_;rw [k3,hh]; rfl
   have hcb:cutF nR s1.files=dall A l:=by rw [k4]; exact cut_back hDs hDn
   unfold endE endS;rw [f1,c1,c2];simp only [ne_eq,not_true_eq_false,if_false];have hfu:(flS s1).fuse=s1.fuse:=by rw [f2]
   by_cases hf:s1.fuse=some 0
   · obtain⟨g1,g2⟩:=go_none (s:=flS s1) ⟨nR,true,[]⟩ (cutF nR s1.files) (by rw [hfu]; exact hf)
     rw [g1,g2,f2];exact .inl ⟨rfl,⟨k2.room,k2.files,k2.files,fun x hx=>by simp at hx⟩,rfl,fun h0=>by rw [k5 h0] at hf; cases hf⟩
   · obtain⟨g1,g2⟩:=go_some (s:=flS s1) ⟨nR,true,[]⟩ (cutF nR s1.files) (by rw [hfu]; exact hf)
     rw [g1,g2,f2,hcb];simp only [not_true_eq_false,if_false];refine .inr ?_;have e1:flE ({ s1 with sure:=s1.files,files:=dall A l,loose:=[]++[⟨nR,true,[]⟩],writes:=s1.writes+1,fuse:=s1.fuse.map (· - 1) } : St)=0:=by unfold flE; simp only [k3]; rfl
     have e2:flS ({ s1 with sure:=s1.files,files:=dall A l,loose:=[]++[⟨nR,true,[]⟩],writes:=s1.writes+1,fuse:=s1.fuse.map (· - 1) } : St) = { s1 with sure:=dall A l,files:=dall A l,loose:=[],writes:=s1.writes+1,fuse:=s1.fuse.map (· - 1) }:=by unfold flS; simp only [k3]; rfl
     refine⟨e1, ?_,fun h0=>?_⟩
     · rw [e2]
       exact⟨k2.room,rfl,rfl,rfl,k3⟩
     · rw [e2]
       show s1.fuse.map _=none;rw [k5 h0]; rfl
end
end Go.Proofs.YtoljpfapphoflaaGreatDoor.SfU

set_option maxRecDepth 512
namespace Go.Proofs.YtoljpfapphoflaaGreatDoor.SfV
open Go.RowKit RkO RkC RkD SfB SfD SfG SfT SfO SfP SfU
section
variable {A D X : List F} {l : List Ch} {R : Nat} {s : St}
structure Fk (D:List F):Prop where
 srt:SrtF D
 noR:lkF D nR=none
theorem Fk.nil:Fk []:=⟨List.Pairwise.nil,rfl⟩
theorem cx_of (h:Cl A R s) (k:Fk A) (hf:fitE s l=0):Cx A l R:=by
 unfold fitE at hf;rw [h.down] at hf;simp only [Bool.false_eq_true,if_false] at hf;split at hf
 · cases hf
 · rename_i h1
   split at hf
   · cases hf
   · rename_i h2
     split at hf
     · cases hf
     · rename_i h3
       unfold grt at h3;rw [h.files,h.room] at h3;exact⟨k.srt,k.noR,by simpa using h1,by omega,by omega,by omega⟩
theorem Cx.all (C:Cx A l R):Fk (dall A l):=⟨srt_dall C.srt,by rw [look_dall_no C.srt C.nR_no]; exact C.noR⟩
theorem com_any (h:Cl A R s) (k:Fk A) (hf:fitE s l=0) :
 (comE s l=0/\Cl (dall A l) R (comS s l)/\(s.fuse=none->(comS s l).fuse=none)) \/
 (comE s l=5/\s.fuse≠none/\(Ph A l R (comS s l)\/(comS s l).room=R/\(comS s l).sure=A/\(comS s l).loose=[])):=by
 have C:=cx_of h k hf;unfold comE comS;rw [hf];simp only [ne_eq,not_true_eq_false,if_false];by_cases hl:l.length=0
 · rw [if_pos hl,if_pos hl]
   obtain rfl:l=[]:=List.eq_nil_of_length_eq_zero hl;exact .inl ⟨rfl,h,fun h=>h⟩
 rw [if_neg hl,if_neg hl];have hM:=Mid.start C;have hfit:=hM.fit C;have hb:=wr_bad okR C.len;have hfull:=full_no hfit h.room (n:=nR) (d:=bsL l) (by rw [h.files]);have e1:wrE s nR (bsL l)=goE s:=by unfold wrE; rw [hb,h.down,hfull]; rfl
 have e2:wrS s nR (bsL l)=goS s ⟨nR,false,bsL l⟩ (putF nR (bsL l) s.files):=by unfold wrS; rw [hb,h.down,hfull]; rfl
 rw [e1,e2];by_cases hfu:s.fuse=some 0
 · obtain⟨g1,g2⟩:=go_none ⟨nR,false,bsL l⟩ (putF nR (bsL l) s.files) hfu
   rw [g1,g2];exact .inr ⟨rfl,by rw [hfu]; simp,.inr ⟨h.room,h.sure,h.loose⟩⟩
 · obtain⟨g1,g2⟩:=go_some ⟨nR,false,bsL l⟩ (putF nR (bsL l) s.files) hfu
   rw [g1,g2];simp only [not_true_eq_false,if_false];obtain⟨s1,hs1⟩ : ∃ s1:St,s1 = { s with files:=putF nR (bsL l) s.files,loose:=s.loose++[⟨nR,false,bsL l⟩],writes:=s.writes+1,fuse:=s.fuse.map (· - 1) }:=⟨_,rfl⟩;rw [<- hs1];have hd1:s1.down=false:=by rw [hs1]; exact h.down
   have f1:flE s1=0:=by unfold flE; rw [hd1]; rfl
   have f2:flS s1 = { s1 with sure:=s1.files,loose:=[] }:=by unfold flS; rw [hd1]; rfl
   have hP:Ph A l R (flS s1):=by
    rw [f2,hs1];exact⟨h.room,by show Mid A l (putF nR (bsL l) s.files); rw [h.files]; exact hM,by show Mid A l (putF nR (bsL l) s.files); rw [h.files]; exact hM,fun x hx=>by simp at hx⟩
   have hd2:(flS s1).down=false:=by rw [f2]; exact hd1
   have hfz:s.fuse=none->(flS s1).fuse=none:=fun h0=>by rw [f2,hs1]; show s.fuse.map _=none; rw [h0]; rfl
   rw [f1];simp only [not_true_eq_false,if_false];rcases ph_fin C hP hd2 with⟨k1,k2,_,k4⟩ | ⟨k1,k2,k3⟩
   · exact .inr ⟨k1,fun h0=>k4 (hfz h0),.inl k2⟩
   · exact .inl ⟨k1,k2,fun h0=>k3 (hfz h0)⟩
theorem op_cl (h:Cl D R s) (k:Fk D):opE s=0/\opS s=s/\rdF s nR=none:=by
 have hr:rdF s nR=none:=by rw [rd_look (by rw [h.files]; exact k.srt),h.down,h.files]; exact k.noR
 unfold opE opS;rw [h.down,hr];exact⟨rfl,rfl,rfl⟩
theorem op_few_cl (h:Cl D R s) (k:Fk D) {J:Nat} : ∀ b,rdF s nR=some b->b.length<=1000000000/\(parse b).1.length<=J:=fun b hb=>by
 rw [(op_cl h k).2.2] at hb; cases hb
end
theorem new_cl (r:Int):Cl [] (max 0 (min r 1000000)).toNat (newS r)/\(newS r).fuse=none:=⟨⟨rfl,rfl,rfl,rfl,rfl⟩,rfl⟩
end Go.Proofs.YtoljpfapphoflaaGreatDoor.SfV

set_option maxHeartbeats 2000000
set_option maxRecDepth 100000
namespace Go.Proofs.YtoljpfapphoflaaGreatDoor.SfQ
open Go.RowKit Go.Sort BxD BxKit PkKit RkO RkP RkC RkD RkR RkK RkM RkN SfC SfD SfK SfN SfO
section
variable {base T S lo hi k : Nat} {w w' : World} {s s' : St}
theorem read_s (h:Sx base T S lo hi k w s) (h6:k<=1000) (n:ByteArray) :
 Calls Tryz.prog 41 #[ptr S,.string n] w (RdPost (if n=nR then none else rdF s n) w):=by
 have KR:=H_ (rack_any h);have KD:=H_ (readX h.rx h6 n);have e1:=nR_eq n;clear h;unfold ptr at *;by_cases hn:n=nR
 · rw [decide_eq_true hn] at e1
   rw [if_pos hn];clear hn;go_enter Tryz.func41,Tryz.ntmps41;go_wp2;refine bodyPost_ret (v:=.tuple #[.slice none 0 0,.bool false]) (by simp [results,Tryz.results41,go_sem]) rfl ?_;exact⟨none,0,0,rfl,ByT.nil _ _,Nat.le_refl _,Below.refl _ _⟩
 · rw [decide_eq_false hn] at e1
   rw [if_neg hn];clear hn;unfold RdPost at KD;go_enter Tryz.func41,Tryz.ntmps41;go_wp2_with (first
    | (go_at_call 49; go_loud (refine KR.out.mono ?_; rintro e w1 ⟨rfl,rfl⟩))
    | (go_at_call 56; go_loud (refine KD.out.mono ?_; rintro e w2 ⟨A2,m2,c2,rfl,h1,h2,h3⟩; have HP:=H_ (And.intro h1 (And.intro h2 h3)); clear h1 h2 h3)))
   refine bodyPost_ret (v:=.tuple #[.slice A2 m2 c2,.bool (rdF s n).isSome]) (by simp [results,Tryz.results41,go_sem]) rfl ?_;exact⟨A2,m2,c2,rfl,HP.out⟩
end
def rq (x:List UInt8):Bool:=x==[61,114,101,100,111]
theorem is_redo (x:List UInt8) (W:World):FnGives Tryz.prog 51 #[] #[encStr x] (.bool (rq x)) W:=by
 show Calls Tryz.prog _ #[encStr x] W _;unfold encStr rq;go_enter Tryz.func51,Tryz.ntmps51;go_wp2;go_ret;exact⟨rfl,0,rfl⟩
def DlPost (n:Nat) (w:World) (e:Ending) (w':World):Prop:=∃ A c,e = .returned (.slice A n c)/\Below w.heap.size w w'
abbrev fnV:Value:=.func (.func 51) #[] #[]
theorem del_any {w w0:World} {n c:Nat} {A:Option Addr} {ks:Tx} (h:w.ownsRow w0.heap.size 9 1 (.slice A n c) n (ks.map encStr)) (hb0:Below w0.heap.size w0 w) (hn:0<n) (h6:n<=1000000) :
 Calls Tryz.prog 48 #[.slice A n c,fnV] w (DlPost (ks.filter fun x=>!rq x).length w0):=by
 have hl:ks.length=n:=by have:=h.1; simpa using this
 obtain⟨g,cap,e,hb,hg,hnc,hcm,_,hH⟩:=Lib.holds_of_ownsRow h (by intro e; injection e with _ e; omega);injection e with e1 e2 e3;subst e1 e3;have hc:=Tryz.slices_DeleteFunc encStr (fun _=>rfl) rq 51 #[] (enters_of Tryz.func51 (by kernel_rfl) rfl) [] (fun _=>by kernel_rfl) g 0 c ks.toArray w (fun W x _=>is_redo x W) (fun _ _ _ x _=>is_redo x _) hH (by simp; omega) (by simp; omega);have hs:ks.toArray.size=n:=by simpa using hl
 rw [hs] at hc;refine hc.mono ?_;rintro e w' ⟨rfl,q,rfl⟩;exact⟨_,_,rfl,Lib.below_putRow hb0 hb⟩
section
variable {base T S lo hi k : Nat} {w w' : World} {s s' : St}
theorem names_s (h:Sx base T S lo hi k w s) (h6:k<=1000) (hf:0<s.files.length) :
 Calls Tryz.prog 20 #[ptr S] w (DlPost (((s.files.map (·.1)).map (·.data.toList)).filter fun x=>!rq x).length w):=by
 have KR:=H_ (rack_any h);have KN:=H_ (namesX h.rx h6);have hfl:=h.rx.ok.files.len;clear h;unfold NmPost ptr at *;have hnl:(s.files.map (·.1)).length=s.files.length:=List.length_map _;rw [hnl] at KN;obtain⟨fn,hfn⟩ : ∃ fn,fn=s.files.length:=⟨_,rfl⟩;rw [<- hfn] at KN hfl hf;obtain⟨m,hm⟩ : ∃ m,m=(((s.files.map (·.1)).map (·.data.toList)).filter fun x=>!rq x).length:=⟨_,rfl⟩;rw [<- hm];have HM:=H_ hm;clear hnl hfn hm;go_enter Tryz.func20,Tryz.ntmps20;go_wp2_with (first
  | (go_at_call 49; go_loud (refine KR.out.mono ?_; rintro e w1 ⟨rfl,rfl⟩))
  | (go_at_call 50; go_loud (
     refine KN.out.mono ?_;rintro e w2 ⟨A2,c2,rfl,h7,h8⟩;have KX:=H_ (del_any (w0:=w) (ks:=(s.files.map (·.1)).map (·.data.toList)) (by rw [enc_map]; exact h7) h8 hf (by omega));rw [<- HM.out] at KX;unfold DlPost fnV at KX;clear h7 h8))
  | (go_at_call 48; go_loud (
     refine KX.out.mono ?_;rintro e w3 ⟨A3,c3,rfl,h9⟩;have B3:=H_ h9;clear h9)))
 go_ret;exact⟨A3,c3,rfl,B3.out⟩
end
end Go.Proofs.YtoljpfapphoflaaGreatDoor.SfQ
