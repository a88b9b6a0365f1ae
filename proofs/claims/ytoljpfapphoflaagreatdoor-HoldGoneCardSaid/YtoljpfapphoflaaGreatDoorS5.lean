/-
  SfG + SfH + SfI
-/
import Derived.Test.YtoljpfapphoflaaGreatDoorS3
import Derived.Maps.Own
import Derived.Maps.OwnOps
import Derived.Maps.Views
import Derived.Maps.RangeWalk
import Derived.StringKeys
import Derived.Test.YtoljpfapphoflaaGreatDoorS4
set_option linter.unusedVariables false
set_option linter.unusedSimpArgs false
set_option maxRecDepth 100000
namespace Go.Proofs.YtoljpfapphoflaaGreatDoor.SfG
open Go.RowKit Go.Maps BxD BxKit RkO RkP RkC RkD RkR RkK RkM RkN SfC SfD SfK
abbrev Gr:=List (ByteArray × Nat)
def kl (n:ByteArray):Lit:=.string n.data.toList
def en (p:ByteArray × Nat):Lit × DataW Unit:=(kl p.1,.lit (.int .i64 (p.2:Int)))
theorem kl_inj {a b:ByteArray} (h:kl a=kl b):a=b:=by
 injection h with h;cases a; cases b
 congr 1
 exact Array.ext' h
theorem kl_key (n:ByteArray):WideAt.IsKeyLit (kl n):=trivial
theorem same_kl (a b:ByteArray):(kl a).sameKey (kl b)=decide (a=b):=by
 cases h:(kl a).sameKey (kl b) with
 | true=>exact (decide_eq_true (kl_inj (WideAt.sameKey_eq h))).symm
 | false=>exact (decide_eq_false fun e=>by rw [e,WideAt.sameKey_self (kl_key b)] at h; cases h).symm
def Nd (G:Gr):Prop:=(G.map (·.1)).Nodup
def val (G:Gr) (n:ByteArray):Nat:=match G.find? (fun p=>decide (p.1=n)) with
 | some p=>p.2
 | none=>0
theorem mxu_keys (n:ByteArray) (c:Nat) : ∀ (G:Gr) (x:ByteArray),x∈(mxu n c G).map (·.1)↔x=n\/x∈G.map (·.1)
 | [],x=>by simp [mxu]
 | p::r,x=>by
  unfold mxu;split
  · rename_i h
    simp [h]
  · have:=mxu_keys n c r x
    simp only [List.map_cons,List.mem_cons,this];constructor
    · rintro (h | h | h)
      · exact .inr (.inl h)
      · exact .inl h
      · exact .inr (.inr h)
    · rintro (h | h | h)
      · exact .inr (.inl h)
      · exact .inl h
      · exact .inr (.inr h)
theorem Nd.mxu {n:ByteArray} {c:Nat} : ∀ {G:Gr},Nd G->Nd (mxu n c G)
 | [],_=>by simp [Nd,SfD.mxu]
 | p::r,h=>by
  unfold Nd at h;rw [List.map_cons,List.nodup_cons] at h;unfold Nd SfD.mxu;split
  · rename_i e
    rw [List.map_cons,List.nodup_cons,<- e];exact h
  · rename_i e
    rw [List.map_cons,List.nodup_cons];refine⟨fun hm=>?_,Nd.mxu (G:=r) h.2⟩;rcases (mxu_keys n c r p.1).1 hm with h1 | h1
    · exact e h1
    · exact h.1 h1
theorem ins_perm (x:Lit × DataW Unit) : ∀ l:List (Lit × DataW Unit),(DataW.insert x l).Perm (x::l)
 | []=>List.Perm.refl _
 | y::r=>by
  unfold DataW.insert;split
  · exact List.Perm.refl _
  · exact ((ins_perm x r).cons y).trans (List.Perm.swap x y r)
theorem val_cons_ne {p:ByteArray × Nat} {r:Gr} {n:ByteArray} (h:p.1≠n):val (p::r) n=val r n:=by
 unfold val;rw [List.find?_cons_of_neg (by simpa using h)]
theorem val_cons_eq {p:ByteArray × Nat} {r:Gr} {n:ByteArray} (h:p.1=n):val (p::r) n=p.2:=by
 unfold val;rw [List.find?_cons_of_pos (by simpa using h)]
theorem val_none {G:Gr} {n:ByteArray} (h:n∉G.map (·.1)):val G n=0:=by
 unfold val;rw [List.find?_eq_none.2 fun p hp=>by simpa using fun e=>h (List.mem_map.2 ⟨p,hp,e⟩)]
theorem put_perm {n:ByteArray} {c:Nat} : ∀ {G:Gr},Nd G->(en (n,max (val G n) c)::(G.map en).filter (fun p=>!p.1.sameKey (kl n))).Perm ((mxu n c G).map en)
 | [],_=>by simp [mxu,val]
 | p::r,h=>by
  have h0:=h;unfold Nd at h;rw [List.map_cons,List.nodup_cons] at h;by_cases e:p.1=n
  · have hf:(r.map en).filter (fun q=>!q.1.sameKey (kl n))=r.map en:=by
     refine List.filter_eq_self.2 fun q hq=>?_;obtain⟨q',hq',rfl⟩:=List.mem_map.1 hq;have hne:q'.1≠n:=fun e2=>h.1 (by rw [e,<- e2]; exact List.mem_map.2 ⟨q',hq',rfl⟩);show (!(kl q'.1).sameKey (kl n))=true;rw [same_kl,decide_eq_false hne]; rfl
    rw [val_cons_eq e,List.map_cons,List.filter_cons_of_neg (by show ¬ (!(kl p.1).sameKey (kl n))=true; rw [same_kl,decide_eq_true e]; decide),hf];unfold mxu;rw [if_pos e];exact List.Perm.refl _
  · rw [val_cons_ne e,List.map_cons,List.filter_cons_of_pos (by show (!(kl p.1).sameKey (kl n))=true; rw [same_kl,decide_eq_false e]; rfl)]
    unfold mxu;rw [if_neg e,List.map_cons];exact (List.Perm.swap _ _ _).trans ((put_perm (G:=r) h.2).cons _)
def MG (w:World) (B m:Nat) (G:Gr):Prop :=
 ∃ (D:DataW Unit) (es:List (Lit × DataW Unit)),w.ownsMap Tryz.prog 9 (plainElem Tryz.prog 3) B m D/\D = .map es/\es.Perm (G.map en)/\Nd G
theorem law:Keyed Tryz.prog 9:=string_keyed Tryz.underlying9
theorem zeroE (w:World):(zeroValue 3).run Tryz.prog w = .ok (.int .i64 0) w:=by kernel_rfl
theorem keyS {s:ByteArray} (h:s.size<=maxLen):keyOf Tryz.prog 9 (.string s)=some (kl s):=by
 exact WideMaps.keyOf_string_mk Tryz.underlying9 h
section
variable {w w' : World} {B m : Nat} {G : Gr}
theorem MG.made (w:World):MG (w.alloc (.map #[] 0)) w.heap.size 0 []:=⟨_,[],World.ownsMap_made _ _ _ _,rfl,List.Perm.refl _,List.Pairwise.nil⟩
theorem MG.kept (h:MG w B m G) {row:Option Nat} (hg:w.grownBy w' row) (hne:some B≠row):MG w' B m G:=by
 obtain⟨D,es,h,h2⟩:=h;exact⟨D,es,h.kept hg hne,h2⟩
theorem MG.go (h:MG w B m G) (hb:Below w.heap.size w w'):MG w' B m G:=h.kept (RkO.grown_below hb (row:=none)) (by simp)
theorem apart {es:List (Lit × DataW Unit)} (hp:es.Perm (G.map en)) (hn:Nd G):es.Pairwise (fun p q=>p.1≠q.1):=by
 refine (hp.pairwise_iff (fun {a b} h=>Ne.symm h)).2 ?_;rw [List.pairwise_map];unfold Nd at hn;rw [List.nodup_iff_pairwise_ne,List.pairwise_map] at hn;exact hn.imp fun h e=>h (kl_inj e)
theorem at_mem {es:List (Lit × DataW Unit)} (hp:es.Perm (G.map en)) (hn:Nd G) {p:ByteArray × Nat} (h:p∈G) (z:DataW Unit):(DataW.map es).atKey (kl p.1) z = .lit (.int .i64 (p.2:Nat)) :=
 WideAt.atKey_mem _ (kl_key p.1) (apart hp hn) (hp.mem_iff.2 (List.mem_map.2 ⟨p,h,rfl⟩))
theorem at_no {es:List (Lit × DataW Unit)} (hp:es.Perm (G.map en)) {n:ByteArray} (h:n∉G.map (·.1)) (z:DataW Unit):(DataW.map es).atKey (kl n) z=z:=by
 unfold DataW.atKey;have:es.find? (fun p=>p.1.sameKey (kl n))=none:=by
  refine List.find?_eq_none.2 fun q hq=>?_;obtain⟨p,hp',rfl⟩:=List.mem_map.1 (hp.mem_iff.1 hq);show ¬ (kl p.1).sameKey (kl n)=true;rw [same_kl];exact fun e=>h (List.mem_map.2 ⟨p,hp',of_decide_eq_true e⟩)
 simp only [this]
theorem val_mem (hn:Nd G) {p:ByteArray × Nat} (h:p∈G):val G p.1=p.2:=by
 unfold val;cases hf:G.find? (fun q=>decide (q.1=p.1)) with
 | none=>exact absurd (decide_eq_true rfl) (List.find?_eq_none.1 hf p h)
 | some q =>
  have hm:=List.mem_of_find?_eq_some hf;have he:q.1=p.1:=by simpa using List.find?_some hf
  have:q=p:=by
   unfold Nd at hn;rw [List.nodup_iff_pairwise_ne,List.pairwise_map] at hn;refine Classical.byContradiction fun hne=>?_;have hrel : ∀ {l:Gr},l.Pairwise (fun a b=>a.1≠b.1)->∀ a∈l,∀ b∈l,a.1=b.1->a=b:=by
    intro l hl;induction hl with
    | nil=>intro a ha; simp at ha
    | cons hx _ ih =>
     intro a ha b hb e;rcases List.mem_cons.1 ha with h1 | h1
     · rcases List.mem_cons.1 hb with h2 | h2
       · rw [h1,h2]
       · exact absurd e (by rw [h1]; exact hx b h2)
     · rcases List.mem_cons.1 hb with h2 | h2
       · exact absurd e.symm (by rw [h2]; exact hx a h1)
       · exact ih a h1 b h2 e
   exact hne (hrel hn q hm p h he)
  rw [this]
theorem at_val {es:List (Lit × DataW Unit)} (hp:es.Perm (G.map en)) (hn:Nd G) (n:ByteArray):(DataW.map es).atKey (kl n) (.lit (.int .i64 0)) = .lit (.int .i64 (val G n:Nat)):=by
 by_cases h:n∈G.map (·.1)
 · obtain⟨p,hp',rfl⟩:=List.mem_map.1 h
   rw [at_mem hp hn hp',val_mem hn hp']
 · rw [at_no hp h,val_none h]; rfl
theorem MG.look (h:MG w B m G) {n:ByteArray} (hn:n.size<=maxLen):(Instr.lookup 160 (.map (some B)) (.string n) false).run Tryz.prog w = .ok (.int .i64 (val G n:Nat)) w:=by
 obtain⟨D,es,h,rfl,hp,hnd⟩:=h;obtain⟨c,hrun,hat,_⟩:=h.lookup_int law Tryz.underlying160 Tryz.underlying3 (zeroE w) (keyS hn);rw [at_val hp hnd n] at hat;injection hat with hat;injection hat with _ hat;rw [hrun,hat]
theorem MG.put (h:MG w B m G) (hl:m<maxLen) {n:ByteArray} (hn:n.size<=maxLen) {c x:Nat} (hm:x=max (val G n) c) (hw:(Lit.int .i64 (x:Int)).wf=true) :
 ∃ w',(Instr.mapUpdate 160 (.map (some B)) (.string n) (.int .i64 (x:Nat))).run Tryz.prog w = .ok () w'/\MG w' B (m+1) (mxu n c G)/\w.grownBy w' (some B):=by
 obtain⟨D,es,h,rfl,hp,hnd⟩:=h;obtain⟨w',hrun,r1,r2⟩:=h.update law Tryz.underlying160 hl (keyS hn) (plainElem_int Tryz.underlying3 hw);refine⟨w',hrun,⟨_,_,r1,rfl, ?_,hnd.mxu⟩,r2⟩;refine (ins_perm _ _).trans (((hp.filter _).cons _).trans ?_);rw [hm];exact put_perm hnd
theorem MG.len (h:MG w B m G) (ty:TypeId):(Builtin.len_ #[160] ty #[.map (some B)]).run Tryz.prog w = .ok (.int .i64 (G.length:Nat)) w:=by
 obtain⟨D,es,⟨es',clock,hb,_,_,hD⟩,rfl,hp,_⟩:=h;have hl:es.length=es'.size:=by
  injection hD with hD;rw [hD,length_sorted]; simp
 rw [hp.length_eq,List.length_map] at hl;rw [run_len_map (P:=Tryz.prog) w 160 ty B es' clock (by kernel_rfl) hb,<- hl];rfl
theorem wpList_mg {ops:Array Oper} {rest:List Oper} {o:Oper} {a:Act} {Q:Exit->Act->World->Prop} (h:MG w B m G) (hg:o.guard=none) (mo xo vo:Operand) (hop:o.op=Op.mapUpdate 160 mo xo vo)
 (hmo:a.eval mo = .map (some B)) {n:ByteArray} {c y:Nat} {z:Int} (hx:a.eval xo = .string n) (hv:a.eval vo = .int .i64 z) (hz:z=(y:Int)) (hl:m<maxLen) (hn:n.size<=maxLen) (hm:y=max (val G n) c) (hw:(Lit.int .i64 (y:Int)).wf=true)
 (hK : ∀ w',MG w' B (m+1) (mxu n c G)->w.grownBy w' (some B)->wpList Tryz.prog ops Q rest (a.put o.dst undef) w'):wpList Tryz.prog ops Q (o::rest) a w:=by
 subst hz;refine wpList_plain hg fun K' hK'=>?_;obtain⟨w',hrun,r1,r2⟩:=h.put hl hn hm hw;unfold Oper.wp;simp [execOp,hop,hmo,hx,hv,hrun,Result.andThen];exact hK' _ _ (hK w' r1 r2)
def lsum (G:Gr) (left:Lit->Bool):Nat:=((G.filter fun p=>left (kl p.1)).map (·.2)).sum
theorem lsum_none {left:Lit->Bool} (h : ∀ z,left z=false):lsum G left=0:=by
 unfold lsum;rw [List.filter_eq_nil_iff.2 fun p _=>by rw [h]; decide]; rfl
theorem lsum_all {left:Lit->Bool} (h : ∀ p∈G,left (kl p.1)=true):lsum G left=sum2 G:=by
 unfold lsum sum2;rw [List.filter_eq_self.2 h]
end
theorem lsum_step {left:Lit->Bool} {p:ByteArray × Nat} : ∀ {G:Gr},Nd G->p∈G->left (kl p.1)=true->lsum G left=p.2+lsum G (fun z=>left z && !z.sameKey (kl p.1))
 | q::r,hn,hp,hl=>by
  unfold Nd at hn;rw [List.map_cons,List.nodup_cons] at hn;rcases List.mem_cons.1 hp with rfl | hp
  · have e:lsum r (fun z=>left z && !z.sameKey (kl p.1))=lsum r left:=by
     unfold lsum
     congr 2
     refine List.filter_congr fun x hx=>?_;have hne:x.1≠p.1:=fun e=>hn.1 (by rw [<- e]; exact List.mem_map.2 ⟨x,hx,rfl⟩);show (left (kl x.1) && !(kl x.1).sameKey (kl p.1))=_;rw [same_kl,decide_eq_false hne]; simp
    unfold lsum at e ⊢;rw [List.filter_cons_of_pos (by simpa using hl),List.filter_cons_of_neg (by show ¬ (left (kl p.1) && !(kl p.1).sameKey (kl p.1))=true; rw [same_kl,decide_eq_true rfl]; simp),e];simp
  · have ih:=lsum_step (G:=r) hn.2 hp hl
    have hne:q.1≠p.1:=fun e=>hn.1 (by rw [e]; exact List.mem_map.2 ⟨p,hp,rfl⟩);have e2:(left (kl q.1) && !(kl q.1).sameKey (kl p.1))=left (kl q.1):=by rw [same_kl,decide_eq_false hne]; simp
    unfold lsum at ih ⊢;by_cases hq:left (kl q.1)=true
    · rw [List.filter_cons_of_pos (by simpa using hq),List.filter_cons_of_pos (by dsimp only; rw [e2]; exact hq),List.map_cons,List.sum_cons,List.map_cons,List.sum_cons,ih]; omega
    · rw [List.filter_cons_of_neg (by simpa using hq),List.filter_cons_of_neg (by dsimp only; rw [e2]; exact hq)]
      exact ih
end Go.Proofs.YtoljpfapphoflaaGreatDoor.SfG

set_option maxHeartbeats 2000000
set_option maxRecDepth 100000
namespace Go.Proofs.YtoljpfapphoflaaGreatDoor.SfH
open Go.RowKit Go.Maps BxD BxKit RkO RkP RkC RkD RkR RkK RkM RkN SfC SfD SfK SfG
def Bd (G:Gr):Prop:=∀ p∈G,p.2<=3000000
theorem val_bd {G:Gr} (h:Bd G) (n:ByteArray):val G n<=3000000:=by
 unfold val;split
 · rename_i p hp; exact h p (List.mem_of_find?_eq_some hp)
 · exact Nat.zero_le _
theorem Bd.mxu {n:ByteArray} {c:Nat} (hc:c<=3000000) : ∀ {G:Gr},Bd G->Bd (mxu n c G)
 | [],_=>by intro p hp; simp [SfD.mxu] at hp; subst hp; exact hc
 | q::r,h=>by
  have hq:=h q (List.mem_cons_self ..);have hr:Bd r:=fun p hp=>h p (List.mem_cons_of_mem _ hp);intro p hp;unfold SfD.mxu at hp;split at hp
  · rcases List.mem_cons.1 hp with rfl | hp
    · show max q.2 c<=3000000; omega
    · exact hr p hp
  · rcases List.mem_cons.1 hp with rfl | hp
    · exact hq
    · exact (Bd.mxu (n:=n) hc hr) p hp
theorem mxu_len (n:ByteArray) (c:Nat) : ∀ G:Gr,(mxu n c G).length<=G.length+1
 | []=>by simp [mxu]
 | q::r=>by
  have:=mxu_len n c r;unfold mxu;split <;> simp <;> omega
theorem sum_bd : ∀ {G:Gr},Bd G->sum2 G<=3000000*G.length
 | [],_=>by simp [sum2]
 | q::r,h=>by
  have h1:=h q (List.mem_cons_self ..);have h2:=sum_bd (G:=r) fun p hp=>h p (List.mem_cons_of_mem _ hp);unfold sum2 at h2 ⊢;rw [List.map_cons,List.sum_cons,List.length_cons];omega
theorem wf_nat {x:Nat} (h:x<=1000000000):(Lit.int .i64 (x:Int)).wf=true:=by
 unfold Lit.wf;simp [IntKind.min,IntKind.max,IntKind.signed,IntKind.bits];omega
theorem count_any {w:World} {P B m:Nat} {G:Gr} (hP:w.cell? ⟨P,0,none⟩ = some (.map (some B))) (h:MG w B m G) (hb:Bd G) (hm:m<=10000) {nm:ByteArray} {D:Option Addr} {n dc:Nat} (hz:nm.size<=1000000) (hn:n<=1000000) :
 Calls Tryz.prog 115 #[.string nm,.slice D n dc,.pointer (some ⟨P,0,none⟩)] w fun e w'=>e = .returned (.tuple #[])/\MG w' B (m+1) (mxu nm (nm.size+n+8) G)/\w.grownBy w' (some B):=by
 have hv:=val_bd hb nm;have hlk:=h.look (n:=nm) (by unfold maxLen; omega);have H:=H_ h;obtain⟨v,hve⟩ : ∃ v,v=val G nm:=⟨_,rfl⟩;rw [<- hve] at hv hlk;have HV:=H_ hve;clear h hve;by_cases hle:v<=nm.size+n+8
 · have hmx : ¬ ((nm.size:Int)+(n:Int)+8<(v:Int)):=by omega
   go_enter Tryz.func115,Tryz.ntmps115;go_wp2_with (at_mapUpdate; go_loud (
    refine wpList_mg H.out rfl _ _ _ rfl rfl (c:=nm.size+n+8) (y:=nm.size+n+8) rfl rfl (by first | rfl | (simp; done) | (simp; omega) | omega) (by unfold maxLen; omega) (by unfold maxLen; omega) (by rw [<- HV.out]; omega) (wf_nat (by omega)) ?_;intro w2 hm2 hg2;have M2:=H_ hm2;have G2:=H_ hg2;clear hm2 hg2))
   all_goals
    go_end0
    exact⟨rfl,M2.out,G2.out⟩
 · have hmx:(nm.size:Int)+(n:Int)+8<(v:Int):=by omega
   go_enter Tryz.func115,Tryz.ntmps115;go_wp2_with (at_mapUpdate; go_loud (
    refine wpList_mg H.out rfl _ _ _ rfl rfl (c:=nm.size+n+8) (y:=v) rfl rfl (by first | rfl | (simp; done) | (simp; omega) | omega) (by unfold maxLen; omega) (by unfold maxLen; omega) (by rw [<- HV.out]; omega) (wf_nat (by omega)) ?_;intro w2 hm2 hg2;have M2:=H_ hm2;have G2:=H_ hg2;clear hm2 hg2))
   all_goals
    go_end0
    exact⟨rfl,M2.out,G2.out⟩
end Go.Proofs.YtoljpfapphoflaaGreatDoor.SfH

set_option maxHeartbeats 8000000
set_option maxRecDepth 100000
namespace Go.Proofs.YtoljpfapphoflaaGreatDoor.SfI
open Go.RowKit Go.Maps BxD BxKit RkO RkP RkC RkD RkR RkK RkM RkN SfC SfD SfE SfK SfG SfH
theorem lo_idx {l:List F} {j:Nat} {f:F} (hs:SrtF l) (hj:l[j]? = some f):lo cmpS f.1 l=j:=by
 have hlt:=(List.getElem?_eq_some_iff.1 hj).1;refine lo_eq cmpS f.1 l j (by omega) (fun i p hi hp=>?_) fun p hp=>?_
 · obtain⟨h1,e1⟩:=List.getElem?_eq_some_iff.1 hp
   obtain⟨h2,e2⟩:=List.getElem?_eq_some_iff.1 hj;have:=(List.pairwise_iff_getElem.1 hs) i j h1 h2 hi;rw [e1,e2] at this;exact this
 · rw [hj] at hp
   obtain rfl:=Option.some.inj hp;rw [ordS.refl];decide
theorem rd_idx {s:St} {j:Nat} {n:ByteArray} {d:List UInt8} (hd:s.down=false) (hs:SrtF s.files) (hj:s.files[j]? = some (n,d)):rdF s n=some d:=by
 unfold rdF;rw [if_neg (by rw [hd]; decide),lo_idx hs hj,hj];simp
theorem gr1_snoc {l:List F} {q:Nat} {f:F} (h:l[q]? = some f):gr1 (l.take (q+1)) []=mxu f.1 (cst f.1 f.2) (gr1 (l.take q) []):=by
 obtain⟨hl,rfl⟩:=List.getElem?_eq_some_iff.1 h;unfold gr1;rw [List.take_succ_eq_append_getElem hl,List.foldl_append];rfl
theorem gr2_snoc {l:List Ch} {q:Nat} {c:Ch} (h:l[q]? = some c) (m:Gr):gr2 (l.take (q+1)) m=if c.cut then gr2 (l.take q) m else mxu c.name (cst c.name c.data) (gr2 (l.take q) m):=by
 obtain⟨hl,rfl⟩:=List.getElem?_eq_some_iff.1 h;unfold gr2;rw [List.take_succ_eq_append_getElem hl,List.foldl_append];rfl
structure Gs (w wr:World) (P B m:Nat) (G:Gr):Prop where
 bel:Below w.heap.size w wr
 mg:MG wr B m G
 cl:Row wr P 160 [.map (some B)]
 hB:w.heap.size<=B
 hP:w.heap.size<=P
 ne:P≠B
 bd:Bd G
 len:G.length<=m
section
variable {w wr w2 : World} {P B m : Nat} {G : Gr}
theorem Gs.go (h:Gs w wr P B m G) (hb:Below wr.heap.size wr w2):Gs w w2 P B m G :=
 ⟨h.bel.trans (hb.mono h.bel.size),h.mg.go hb,h.cl.below hb h.cl.lt,h.hB,h.hP,h.ne,h.bd,h.len⟩
theorem Gs.put (h:Gs w wr P B m G) {n:ByteArray} {c:Nat} (hc:c<=3000000) (hm:MG w2 B (m+1) (mxu n c G)) (hg:wr.grownBy w2 (some B)):Gs w w2 P B (m+1) (mxu n c G) :=
 ⟨h.bel.grown hg h.bel.size (fun k e=>by obtain rfl:=Option.some.inj e; exact h.hB),hm,h.cl.same (hg.block P h.cl.lt (fun e=>h.ne (Option.some.inj e))),h.hB,h.hP,h.ne,h.bd.mxu hc,by have:=mxu_len n c G; have:=h.len; omega⟩
theorem Gs.cell (h:Gs w wr P B m G):wr.cell? ⟨P,0,none⟩ = some (.map (some B)):=h.cl.cell 0
end
theorem own_ne_map {w:World} {base e sz n B m:Nat} {v:Value} {xs:List Value} {G:Gr} (h:w.ownsRow base e sz v n xs) (hm:MG w B m G):v.ownBlock≠some B:=by
 intro hv;obtain⟨D,es,⟨es',clock,hb,_⟩,_⟩:=hm;rcases h.2 with⟨rfl,_⟩ | ⟨g1,cap,cur,rfl,_,hg,_⟩
 · simp [Value.ownBlock] at hv
 · obtain rfl:g1=B:=by simpa [Value.ownBlock] using hv
   rw [hb] at hg;cases hg
theorem own_go {w w':World} {base e sz n:Nat} {v:Value} {xs:List Value} (h:w.ownsRow base e sz v n xs) (hb:Below w.heap.size w w'):w'.ownsRow base e sz v n xs :=
 h.kept (RkO.grown_below hb (row:=none)) (by cases v.ownBlock <;> simp)
theorem step_mg {es:List (Lit × DataW Unit)} {G:Gr} (hp:es.Perm (G.map en)) (hn:Nd G) {x:ByteArray} {c:Int} (hat : ∀ zd,(DataW.map es).atKey (kl x) zd = .lit (.int .i64 c)) : ∃ p∈G,p.1=x/\(p.2:Int)=c:=by
 by_cases h:x∈G.map (·.1)
 · obtain⟨p,hp',rfl⟩:=List.mem_map.1 h
   have h1:=hat (.lit (.int .i64 0));rw [at_mem hp hn hp'] at h1;injection h1 with h1;injection h1 with _ h1;exact⟨p,hp',rfl,h1⟩
 · have h1:=hat (.lit (.bool true))
   rw [at_no hp h] at h1;injection h1 with h1;cases h1
theorem wpList_next_mg {w:World} {ops:Array Oper} {rest:List Oper} {o:Oper} {a:Act} {Q:Exit->Act->World->Prop} (hg:o.guard=none) (it:Operand) (hop:o.op=Op.next it false) (B r m:Nat) (G:Gr) (es:List (Lit × DataW Unit)) (left:Lit->Bool) (cnt:Nat) (hp:es.Perm (G.map en)) (hn:Nd G)
 (hit:a.eval it = .pointer (some ⟨r,0,none⟩)) (h:w.ranges Tryz.prog 9 (plainElem Tryz.prog 3) B r m (DataW.map es) left cnt)
 (hDone:lsum G left=0->wpList Tryz.prog ops Q rest (a.put o.dst (.tuple #[.bool false])) w)
 (hMore : ∀ (x:ByteArray) (c:Nat) (w':World) (cnt':Nat) (left':Lit->Bool),lsum G left=c+lsum G left'->w'.ranges Tryz.prog 9 (plainElem Tryz.prog 3) B r m (DataW.map es) left' cnt'->cnt'<cnt ->
  w.grownBy w' (some r)->w'.heap.size=w.heap.size->(Instr.entry (.pointer (some ⟨r,0,none⟩))).run Tryz.prog w' = .ok (.tuple #[.string x,.int .i64 (c:Nat)]) w'->wpList Tryz.prog ops Q rest (a.put o.dst (.tuple #[.bool true,.string x,.int .i64 (c:Nat)])) w') :
 wpList Tryz.prog ops Q (o::rest) a w :=
 wpList_next_ranges w hg it hop 9 law (plainElem Tryz.prog 3) Value.string (Value.int .i64) (fun key kl hk=>by obtain⟨x,hx,_⟩:=WideMaps.string_of_keyOf Tryz.underlying9 hk; exact⟨x,hx⟩) (fun v y hv=>by obtain⟨c,rfl,_⟩:=plainElem_int_inv Tryz.underlying3 hv; exact⟨c,rfl⟩)
  B r m (DataW.map es) left cnt hit h (fun _ hl=>hDone (lsum_none hl)) (fun x c kl' y w' cnt' hkey hlk hv hat hrg hlt hgr hsz hen=>by
   obtain⟨x',ex,rfl,_⟩:=WideMaps.string_of_keyOf Tryz.underlying9 hkey;cases ex;obtain⟨c',ec,rfl,_⟩:=plainElem_int_inv Tryz.underlying3 hv;cases ec;obtain⟨p,hpm,rfl,rfl⟩:=step_mg hp hn (x:=x) (c:=c) hat;exact hMore p.1 p.2 w' cnt' _ (lsum_step hn hpm hlk) hrg hlt hgr hsz hen)
section
variable {base T lo hi k : Nat} {w : World} {s : St}
theorem greatest_any (h:Rx base T lo hi k w s) (hd:s.down=false) (h6:k<=900) {n cp bn bc:Nat} {A Bd':Option Addr} {l:List Ch} {b:List UInt8} (hb:b.length=bn) (hbn:bn<=1000000) (hL:ChsP w base lo hi A n l) (hn:n<=1000) (hz:szC l) :
 Calls Tryz.prog 74 #[ptr T,.slice Bd' bn bc,.slice A n cp] w fun e w'=>e = .returned (.tuple #[.int .i64 ((grt s b l).length:Nat),.int .i64 (sum2 (grt s b l):Nat)])/\Below w.heap.size w w':=by
 have R0:=H_ h;have HL:=H_ hL;have HLN:=H_ hL.1;have HZ:=H_ hz;have hfl:s.files.length<=900:=by have:=h.ok.files.len; omega
 have HS:=H_ (And.intro hd h.ok.files.srt);have HSZ:=H_ h.ok.files.sz;have HBN:=H_ hb;clear h hL hz hd hb;unfold ptr;have hmm:=@run_makeMap Tryz.prog;have G0:=H_ (show Gs w ((w.alloc (.map #[] 0)).alloc (.cells #[.map (some w.heap.size)] 160)) (w.heap.size+1) w.heap.size 0 [] from
  ⟨((Below.refl _ _).alloc lr_ _).alloc (by simp) _,(MG.made w).go (below_alloc _ _),by have:=heap_alloc_new (w.alloc (.map #[] 0)) (.cells #[.map (some w.heap.size)] 160); unfold Row; simpa using this,Nat.le_refl _,by omega,by omega,fun p hp=>by simp at hp,Nat.le_refl _⟩)
 go_enter Tryz.func74,Tryz.ntmps74;go_upto_region 3 with fail
 obtain⟨P,hPe⟩ : ∃ P,P=w.heap.size+1:=⟨_,rfl⟩;obtain⟨B,hBe⟩ : ∃ B,B=w.heap.size:=⟨_,rfl⟩;rw [<- hPe,<- hBe] at G0 ⊢;clear hPe hBe hmm;generalize (World.alloc (World.alloc w _) _)=w0 at G0 ⊢;have hbs:w.heap.size<=w0.heap.size:=G0.out.bel.size;have KN:=H_ (namesX (R0.out.go G0.out.bel) (by omega));unfold NmPost ptr at KN;have hnl:(s.files.map (·.1)).length=s.files.length:=List.length_map _;rw [hnl] at KN;obtain⟨fn,hfn⟩ : ∃ fn,fn=s.files.length:=⟨_,rfl⟩;rw [<- hfn] at KN hfl;have HFN:=H_ hfn;clear hnl hfn;go_wp2_with (go_at_call 50; go_loud (
  refine KN.out.mono ?_;rintro e w1 ⟨A1,c1,rfl,h7,h8⟩;have G1:=H_ (G0.out.go h8);have O1:=H_ h7;clear h7 h8))
 clear KN;go_loopw [23] (fun s23 wr=>∃ q:Nat,q<=fn/\s23 = .int .i64 q/\Hid (Gs w wr P B q (gr1 (s.files.take q) []))/\Hid (wr.ownsRow w0.heap.size 9 1 (.slice A1 fn c1) fn ((s.files.map (·.1)).map Value.string))) (fun s23 _=>fn-(intOf s23).toNat)
 case atStart=>exact⟨0,Nat.zero_le _,rfl,G1,O1⟩
 case round =>
  obtain⟨q,hq,rfl,HG,HO⟩:=hrel;by_cases hlt:q<fn
  · obtain⟨g,hg⟩ : ∃ g,A1=some ⟨g,0,none⟩:=by
     rcases HO.out.2 with⟨hv,h0⟩ | ⟨g,cap,cur,hv,_⟩
     · omega
     · injection hv with hv; exact⟨g,hv⟩
    subst hg;obtain⟨f,hf⟩ : ∃ f,s.files[q]? = some f:=⟨_,List.getElem?_eq_getElem (by rw [<- HFN.out]; exact hlt)⟩;obtain⟨nm,d⟩:=f;have HF:=H_ hf;have hcl:wr.cell? ((⟨g,0,none⟩:Addr).add q)=some (.string nm):=HO.out.cells (g:=g) rfl q _ (by rw [List.getElem?_map,List.getElem?_map,hf]; rfl);rw [add_new] at hcl;have hsz:=HSZ.out _ (List.mem_of_getElem? hf);have hs1:nm.size<=24:=hsz.1;have hs2:d.length<=200000:=hsz.2;have KR:=H_ (readX (R0.out.go HG.out.bel) (by omega) nm);rw [rd_idx HS.out.1 HS.out.2 hf] at KR;have HSN:=H_ (gr1_snoc hf);unfold RdPost ptr at KR;clear hf hsz;go_upto_region 7 with (go_at_call 56; go_loud (
     refine KR.out.mono ?_;rintro e w2 ⟨A2,m2,c2,rfl,hby,_,hb2⟩;have G2:=H_ (HG.out.go hb2);have O2:=H_ (own_go HO.out hb2);have HM2:=H_ (show d.length=m2 from hby.1);clear hby hb2 hcl))
    obtain rfl:=HM2.out;have KC:=H_ (count_any (dc:=c2) (D:=A2) (n:=d.length) G2.out.cell G2.out.mg G2.out.bd (by omega) (nm:=nm) (by omega) (by omega));obtain⟨m,hm⟩ : ∃ m,m=d.length:=⟨_,rfl⟩;rw [<- hm] at KC hs2 ⊢;have HM:=H_ hm;clear hm KR;go_wp2_with (go_at_call 115; go_loud (
     refine KC.out.mono ?_;rintro e w3 ⟨rfl,hm3,hg3⟩;have G3:=H_ (G2.out.put (by omega) hm3 hg3);have O3:=H_ (O2.out.kept hg3 (.inr (own_ne_map O2.out G2.out.mg)));clear hm3 hg3))
    go_roundw
    case measure=>simp [intOf]; omega
    case rel =>
     refine⟨q+1,by omega,by go_num, ?_,O3⟩;show Gs w w3 P B (q+1) (gr1 (s.files.take (q+1)) []);rw [HSN.out];unfold cst;rw [<- HM.out];exact G3.out
  · obtain rfl:fn=q:=by omega
    have g1:=HG.out;rw [List.take_of_length_le (by rw [<- HFN.out]; exact Nat.le_refl _)] at g1;have G2:=H_ g1;clear g1 HG HO G1 O1;have KC:=H_ (count_any (dc:=bc) (D:=Bd') (n:=bn) G2.out.cell G2.out.mg G2.out.bd (by omega) (nm:=nR) (by decide) hbn);unfold nR at KC;go_upto_region 10 with (go_at_call 115; go_loud (
     refine KC.out.mono ?_;rintro e w3 ⟨rfl,hm3,hg3⟩;have G3:=H_ (G2.out.put (n:=nR) (c:=cst nR b) (by unfold cst; rw [HBN.out]; show 5+bn+8<=3000000; omega) (by unfold cst; rw [HBN.out]; exact hm3) hg3);clear hm3 hg3))
    clear KC G2;have hbL:base<=w.heap.size/\hi<=w.heap.size:=⟨R0.out.bs,R0.out.hs⟩;go_wp2_with fail
    go_loopw [43] (fun s43 wr=>∃ (q m:Nat),q<=n/\m<=fn+1+q/\s43 = .int .i64 q/\Hid (Gs w wr P B m (gr2 (l.take q) (mxu nR (cst nR b) (gr1 s.files []))))) (fun s43 _=>n-(intOf s43).toNat)
    case atStart=>exact⟨0,fn+1,Nat.zero_le _,Nat.le_refl _,rfl,G3⟩
    case round =>
     clear G3;obtain⟨q,m,hq,hm,rfl,HG⟩:=hrel;by_cases hlt:q<n
     · obtain⟨ad,x,bb,K,kd,kc,rfl,hg,d0,d1,d2,hle,hby,_⟩:=HL.out.sp (Kb.below HG.out.bel hbL.1 hbL.2) (j:=q) hlt
       have hsz:=HZ.out _ (List.mem_of_getElem? hg);have hs1:x.size<=1000000:=hsz.1;have hs2:kd.length<=1000000:=hsz.2;have HSN:=H_ (gr2_snoc hg (mxu nR (cst nR b) (gr1 s.files [])));have G4:=H_ (HG.out.go (below_alloc wr (.cells #[.string x,.bool bb,.slice K kd.length kc] 81)));have KC:=H_ (count_any (dc:=kc) (D:=K) (n:=kd.length) G4.out.cell G4.out.mg G4.out.bd (by omega) (nm:=x) (by omega) (by omega));obtain⟨z,hz⟩ : ∃ z,z=kd.length:=⟨_,rfl⟩;rw [<- hz] at d2 KC G4 hs2;have HZL:=H_ hz;clear hg hsz hle hby hz;cases bb with
       | true =>
        go_wp2_with fail
        go_roundw
        case measure=>simp [intOf]; omega
        case rel=>exact⟨q+1,m,by omega,by omega,by go_num,by rw [HSN.out]; exact G4⟩
       | false =>
        go_wp2_with (go_at_call 115; go_loud (
         refine KC.out.mono ?_;rintro e w5 ⟨rfl,hm5,hg5⟩;have G5:=H_ (G4.out.put (by omega) hm5 hg5);clear hm5 hg5))
        go_roundw
        case measure=>simp [intOf]; omega
        case rel =>
         refine⟨q+1,m+1,by omega,by omega,by go_num, ?_⟩;rw [HSN.out];show Gs w w5 P B (m+1) (mxu x (cst x kd) (gr2 (l.take q) (mxu nR (cst nR b) (gr1 s.files []))));unfold cst;rw [<- HZL.out];exact G5.out
     · obtain rfl:n=q:=by omega
       have g1:=HG.out;rw [List.take_of_length_le (by rw [HLN.out]; exact Nat.le_refl _)] at g1;have hgr:grt s b l=gr2 l (mxu nR (cst nR b) (gr1 s.files [])):=rfl;rw [<- hgr] at g1;obtain⟨G,hG⟩ : ∃ G,G=grt s b l:=⟨_,rfl⟩;rw [<- hG] at g1;have hsum:=sum_bd g1.bd;have hlen:=g1.len;have HGE:=H_ hG;have G6:=H_ g1;obtain⟨D,es,hown,hDe,hp,hnd⟩:=g1.mg;rw [hDe] at hown;have HP:=H_ hp;have HN:=H_ hnd;have HEN:=H_ (g1.mg.len);have hcell:=g1.cell;clear g1 hgr hG HG hp hnd hDe;go_wp2_with (first
        | (at_range; refine wpList_range_own _ rfl _ 160 rfl 9 3 law Tryz.underlying160 _ B m _ rfl hown ?_; intro w4 hrg4 hg4 hs4)
        | go_in)
       have hall:lsum G (Maps.has (DataW.map es))=sum2 G:=lsum_all fun p hp=>by
        rw [Maps.has_eq];exact List.any_eq_true.2 ⟨en p,HP.out.mem_iff.2 (List.mem_map.2 ⟨p,hp,rfl⟩),by show (kl p.1).sameKey (kl p.1)=true; rw [same_kl]; exact decide_eq_true rfl⟩
       have HALL:=H_ hall;have HB4:=H_ (show Below w.heap.size w w4 from G6.out.bel.trans ((show Below wr.heap.size wr w4 from ⟨hg4.os,hg4.tape,hg4.output,hg4.size,fun k hk=>hg4.block k hk (by simp)⟩).mono G6.out.bel.size));have HC4:=H_ (show Row w4 P 160 [.map (some B)] from G6.out.cl.same (hg4.block P G6.out.cl.lt (by simp)));have hrl:w.heap.size<=wr.heap.size:=G6.out.bel.size;have hPr:P<wr.heap.size:=G6.out.cl.lt;obtain⟨r,hr⟩ : ∃ r,r=wr.heap.size:=⟨_,rfl⟩;rw [<- hr] at hrg4 hrl hPr;rw [<- hr];clear hr hall hg4 hs4 hown HEN hcell G6
       go_frame
       go_loopw [7] (fun s7 wx=>∃ (left:Lit->Bool) (cnt x:Nat),s7 = .int .i64 x/\wx.ranges Tryz.prog 9 (plainElem Tryz.prog 3) B r m (DataW.map es) left cnt/\x+lsum G left=sum2 G/\Hid (Below w.heap.size w wx)/\Hid (Row wx P 160 [.map (some B)])) (fun _ wx=>wx.rangeLeft B r)
       case atStart=>exact⟨_,_,0,rfl,hrg4,by rw [HALL.out]; omega,HB4,HC4⟩
       case round =>
        clear hrg4 HALL HB4 HC4;obtain⟨left,cnt,x,rfl,hrg,hx,HB,HC⟩:=hrel;have HX:=H_ hx;clear hx;go_wp2_with (first
         | (at_next; refine wpList_next_mg rfl _ rfl B r m G es left cnt HP.out HN.out rfl hrg ?_ ?_)
         | go_in)
        · intro h0
          have HX2:=H_ (show x=sum2 G by have:=HX.out; omega);have hln:=MG.len (ty:=3) (show MG wr B m G from ⟨_,es,hrg.owns,rfl,HP.out,HN.out⟩);have hc:=HC.out.cell 0;clear hrg h0;go_wp2_with fail
          refine bodyPost_ret (v:=.tuple #[.int .i64 (G.length:Nat),.int .i64 (x:Nat)]) (by simp [results,Tryz.results74,go_sem]) rfl ?_;rw [<- HGE.out,HX2.out];exact⟨rfl,HB.out⟩
        · intro c y w5 cnt5 left5 hl5 hrg5 hlt5 hg5 hs5 hen5
          have hxy:x+y<=60000000000:=by have:=HX.out; have:=hl5; omega
          have HX5:=H_ (show x+y+lsum G left5=sum2 G by have:=HX.out; omega);have HB5:=H_ (HB.out.grown hg5 HB.out.size (fun k e=>by obtain rfl:=Option.some.inj e; exact hrl));have HC5:=H_ (HC.out.same (hg5.block P HC.out.lt (fun e=>by have:P=r:=Option.some.inj e; omega)));have HM:=H_ (show w5.rangeLeft B r<wr.rangeLeft B r by rw [hrg5.left_eq,hrg.left_eq]; exact hlt5);clear hl5 hrg hg5 hs5 hlt5;go_wp2_with fail
          go_roundw
          case measure=>exact HM.out
          case rel=>exact⟨left5,cnt5,x+y,by go_num,hrg5,HX5.out,HB5,HC5⟩
end
end Go.Proofs.YtoljpfapphoflaaGreatDoor.SfI
