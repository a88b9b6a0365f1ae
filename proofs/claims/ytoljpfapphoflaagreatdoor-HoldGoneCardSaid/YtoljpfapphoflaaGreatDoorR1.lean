/-
  RkO + RkC + RkD + RkR
-/
import Derived.Below
import Derived.Laws.OwnMore
import Derived.Laws.CopyRow
import Derived.Laws.Rows
import Derived.Deep.Draws
import Derived.Lib.Hide
import Derived.RegionTactic
import Derived.Test.YtoljpfapphoflaaGreatDoorAa
import Derived.Test.YtoljpfapphoflaaGreatDoorZ10
import Derived.Lib.Bytealg
import Derived.Test.YtoljpfapphoflaaGreatDoorZ8
set_option linter.unusedVariables false
set_option linter.unusedSimpArgs false
set_option maxRecDepth 100000
namespace Go.Proofs.YtoljpfapphoflaaGreatDoor.RkO
open Go.RowKit
section
variable {κ υ : Type} (cm : κ -> κ -> Int)
structure Ord:Prop where
 eq0 : ∀ a b,cm a b=0↔a=b
 anti : ∀ a b,cm a b<0↔0<cm b a
 trans : ∀ a b c,cm a b<0->cm b c<0->cm a c<0
def lo (k:κ):List (κ × υ)->Nat
 | []=>0
 | p::r=>if cm p.1 k<0 then lo k r+1 else 0
def hit (k:κ) (ps:List (κ × υ)):Bool:=match ps[lo cm k ps]? with
 | some p=>decide (cm p.1 k=0)
 | none=>false
def Srt (ps:List (κ × υ)):Prop:=ps.Pairwise (fun p q=>cm p.1 q.1<0)
def ins (k:κ) (v:υ) (ps:List (κ × υ)):List (κ × υ):=ps.take (lo cm k ps)++(k,v)::ps.drop (lo cm k ps)
def upd (k:κ) (v:υ) (ps:List (κ × υ)):List (κ × υ):=ps.set (lo cm k ps) (k,v)
def put (k:κ) (v:υ) (ps:List (κ × υ)):List (κ × υ):=if hit cm k ps then upd cm k v ps else ins cm k v ps
def cut (k:κ) (ps:List (κ × υ)):List (κ × υ):=if hit cm k ps then ps.take (lo cm k ps)++ps.drop (lo cm k ps+1) else ps
theorem lo_le (k:κ) : ∀ ps:List (κ × υ),lo cm k ps<=ps.length
 | []=>Nat.le_refl _
 | p::r=>by
  unfold lo;have:=lo_le k r;split <;> simp <;> omega
theorem lo_below (k:κ) : ∀ (ps:List (κ × υ)) (i:Nat) (p:κ × υ),i<lo cm k ps->ps[i]? = some p->cm p.1 k<0
 | [],i,p,h,_=>by simp [lo] at h
 | q::r,i,p,h,hp=>by
  unfold lo at h;split at h
  · rename_i hq
    cases i with
    | zero=>simp at hp; subst hp; exact hq
    | succ i=>exact lo_below k r i p (by omega) (by simpa using hp)
  · omega
theorem lo_at (k:κ) : ∀ (ps:List (κ × υ)) (p:κ × υ),ps[lo cm k ps]? = some p->¬ cm p.1 k<0
 | [],p,h=>by simp [lo] at h
 | q::r,p,h=>by
  unfold lo at h;split at h
  · exact lo_at k r p (by simpa using h)
  · simp at h; subst h; assumption
theorem lo_eq (k:κ) : ∀ (ps:List (κ × υ)) (i:Nat),i<=ps.length->(∀ j p,j<i->ps[j]? = some p->cm p.1 k<0)->(∀ p,ps[i]? = some p->¬ cm p.1 k<0)->lo cm k ps=i
 | [],i,hi,_,_=>by simp at hi; simp [lo,hi]
 | q::r,0,_,_,h2=>by
  have:=h2 q rfl;simp [lo,this]
 | q::r,i+1,hi,h1,h2=>by
  have hq:=h1 0 q (by omega) rfl;have:=lo_eq k r i (by simpa using hi) (fun j p hj hp=>h1 (j+1) p (by omega) (by simpa using hp)) (fun p hp=>h2 p (by simpa using hp));simp [lo,hq,this]
variable {cm}
variable (O : Ord cm)
include O
theorem Ord.refl (a:κ):cm a a=0:=(O.eq0 a a).2 rfl
theorem hit_iff {k:κ} {ps:List (κ × υ)} : hit cm k ps=true↔∃ v,ps[lo cm k ps]? = some (k,v):=by
 unfold hit;cases h:ps[lo cm k ps]? with
 | none=>simp
 | some p =>
  obtain⟨a,v⟩:=p;simp [O.eq0]
theorem above {k:κ} {ps:List (κ × υ)} (hs:Srt cm ps) {i:Nat} {p:κ × υ} (hi:lo cm k ps<=i) (hp:ps[i]? = some p) : ¬ cm p.1 k<0:=by
 have hlt:i<ps.length:=(List.getElem?_eq_some_iff.1 hp).1;rcases Nat.lt_or_eq_of_le hi with h | h
 · have hq:ps[lo cm k ps]? = some (ps[lo cm k ps]'(by omega)):=List.getElem?_eq_getElem (by omega)
   have h1:=lo_at cm k ps _ hq;have h2:=List.pairwise_iff_getElem.1 hs (lo cm k ps) i (by omega) hlt h;rw [(List.getElem?_eq_some_iff.1 hp).2] at h2;intro h3;exact h1 (O.trans _ _ _ h2 h3)
 · subst h; exact lo_at cm k ps _ hp
theorem srt_ins {k:κ} {v:υ} {ps:List (κ × υ)} (hs:Srt cm ps) (hh:hit cm k ps=false):Srt cm (ins cm k v ps):=by
 unfold ins Srt;have hs':=hs;unfold Srt at hs';rw [<- List.take_append_drop (lo cm k ps) ps] at hs';obtain⟨h1,h2,h3⟩:=List.pairwise_append.1 hs';have hlow : ∀ p∈ps.take (lo cm k ps),cm p.1 k<0:=by
  intro p hp;obtain⟨i,hi,rfl⟩:=List.getElem_of_mem hp;rw [List.length_take] at hi;rw [List.getElem_take];exact lo_below cm k ps i _ (by omega) (List.getElem?_eq_getElem (by omega))
 have hup : ∀ p∈ps.drop (lo cm k ps),cm k p.1<0:=by
  intro p hp;obtain⟨i,hi,rfl⟩:=List.getElem_of_mem hp;rw [List.length_drop] at hi;rw [List.getElem_drop];have hg:ps[lo cm k ps+i]? = some (ps[lo cm k ps+i]'(by omega)):=List.getElem?_eq_getElem (by omega);have ha:=above O (k:=k) (i:=lo cm k ps+i) hs (Nat.le_add_right _ _) hg;have hne:cm (ps[lo cm k ps+i]'(by omega)).1 k≠0:=by
   intro h0;rcases Nat.eq_zero_or_pos i with hz | hz
   · subst hz
     have:=(hit_iff O (k:=k) (ps:=ps)).2 ⟨(ps[lo cm k ps]'(by omega)).2,by
      have e:=(O.eq0 _ _).1 h0;rw [List.getElem?_eq_getElem (by omega)]
      congr 1
      exact Prod.ext e rfl⟩
     rw [this] at hh; cases hh
   · have hq:ps[lo cm k ps]? = some (ps[lo cm k ps]'(by omega)):=List.getElem?_eq_getElem (by omega)
     have h1:=lo_at cm k ps _ hq;have h2:=List.pairwise_iff_getElem.1 hs (lo cm k ps) (lo cm k ps+i) (by omega) (by omega) (by omega);rw [(O.eq0 _ _).1 h0] at h2;exact h1 h2
  have:=(O.anti k (ps[lo cm k ps+i]'(by omega)).1).2 (by omega);exact this
 refine List.pairwise_append.2 ⟨h1,List.pairwise_cons.2 ⟨hup,h2⟩, ?_⟩;intro a ha b hb;rcases List.mem_cons.1 hb with rfl | hb
 · exact hlow a ha
 · exact h3 a ha b hb
theorem map_upd {k:κ} {v:υ} {ps:List (κ × υ)} (hh:hit cm k ps=true):(upd cm k v ps).map (·.1)=ps.map (·.1):=by
 obtain⟨u,hu⟩:=(hit_iff O).1 hh;unfold upd;apply List.ext_getElem?;intro i;simp only [List.getElem?_map,List.getElem?_set];split
 · rename_i h; subst h
   have:=(List.getElem?_eq_some_iff.1 hu).1;rw [if_pos this,hu]; rfl
 · rfl
omit O in
theorem srt_map {ps qs:List (κ × υ)} (h:ps.map (·.1)=qs.map (·.1)) (hs:Srt cm qs):Srt cm ps:=by
 unfold Srt at *;have h1:(qs.map (·.1)).Pairwise (fun a b=>cm a b<0):=List.pairwise_map.2 hs;rw [<- h] at h1;exact List.pairwise_map.1 h1
theorem srt_put {k:κ} {v:υ} {ps:List (κ × υ)} (hs:Srt cm ps):Srt cm (put cm k v ps):=by
 unfold put;cases hh:hit cm k ps with
 | true=>exact srt_map (map_upd O hh) hs
 | false=>exact srt_ins O hs hh
omit O in
theorem srt_cut {k:κ} {ps:List (κ × υ)} (hs:Srt cm ps):Srt cm (cut cm k ps):=by
 unfold cut;split
 · refine List.Pairwise.sublist ?_ hs
   have h1:(ps.drop (lo cm k ps+1)).Sublist (ps.drop (lo cm k ps)):=by
    rw [<- List.drop_drop];exact List.drop_sublist _ _
   have:=List.Sublist.append (List.Sublist.refl (ps.take (lo cm k ps))) h1
   rwa [List.take_append_drop] at this
 · exact hs
omit O in
theorem hit_lt {k:κ} {ps:List (κ × υ)} (h:hit cm k ps=true):lo cm k ps<ps.length:=by
 unfold hit at h;split at h
 · rename_i p hp; exact (List.getElem?_eq_some_iff.1 hp).1
 · cases h
omit O in
theorem length_put {k:κ} {v:υ} {ps:List (κ × υ)} : (put cm k v ps).length=if hit cm k ps then ps.length else ps.length+1:=by
 have:=lo_le cm k ps;unfold put;split <;> simp [upd,ins] <;> omega
omit O in
theorem length_cut {k:κ} {ps:List (κ × υ)} : (cut cm k ps).length=if hit cm k ps then ps.length-1 else ps.length:=by
 unfold cut;split
 · rename_i h
   have:=hit_lt h;simp; omega
 · rfl
end
def Row (w:World) (g:Nat) (t:TypeId) (l:List Value):Prop:=w.heap[g]? = some (.cells l.toArray t (0,0))
section
variable {w w' : World} {g : Nat} {t : TypeId} {l : List Value}
theorem Row.lt (h:Row w g t l):g<w.heap.size:=(gs_ h).1
theorem Row.cell (h:Row w g t l) (i:Nat):w.cell? ⟨g,i,none⟩=l[i]?:=by
 rw [cell_of_row w g i _ t (0,0) h]; simp
theorem Row.frozen (h:Row w g t l) (i:Nat):w.frozen? ⟨g,i,none⟩=false:=by
 unfold Row at h; simp [World.frozen?,h]
theorem Row.same (h:Row w g t l) (hb:w'.heap[g]? = w.heap[g]?):Row w' g t l:=hb.trans h
theorem Row.alloc (h:Row w g t l) (o:Obj):Row (w.alloc o) g t l:=h.same (Below.heap_alloc w o g h.lt)
theorem Row.below (h:Row w g t l) {B:Nat} (hb:Below B w w') (hg:g<B):Row w' g t l:=h.same (hb.block g hg)
theorem Row.stored (h:Row w g t l) (i:Nat) (u:Value):Row (w.setCell ⟨g,i,none⟩ u) g t (l.set i u):=by
 unfold Row at *;simp [World.setCell,Array.getElem?_modify,h]
theorem Row.far (h:Row w g t l) {p:Addr} (hp:g≠p.block) (u:Value):Row (w.setCell p u) g t l:=h.same (Below.heap_setCell w p u g hp)
theorem Row.ne_ {g':Nat} {t':TypeId} {l':List Value} (h:Row w g t l) (h':Row w g' t' l') (hne:t≠t'):g≠g':=by
 rintro rfl;unfold Row at h h';rw [h] at h';injection h' with h';injection h' with _ ht;exact hne ht
theorem setCell_grown (w:World) (a:Addr) (u:Value):w.grownBy (w.setCell a u) (some a.block) :=
 ⟨rfl,rfl,rfl,by simp [World.setCell],fun k _ hne=>Below.heap_setCell w a u k (fun e=>hne (by rw [e]))⟩
theorem grown_trans {a b c:World} {row:Option Nat} (h:a.grownBy b row) (k:b.grownBy c row):a.grownBy c row :=
 ⟨k.os.trans h.os,k.tape.trans h.tape,k.output.trans h.output,Nat.le_trans h.size k.size,fun i hi hne=>(k.block i (Nat.lt_of_lt_of_le hi h.size) hne).trans (h.block i hi hne)⟩
theorem grown_of_drew {a b:World} {row:Option Nat} (h:a.drew.grownBy b row):a.grownBy b row:=⟨h.os,h.tape,h.output,h.size,h.block⟩
theorem grown_below {a b:World} {row:Option Nat} (h:Below a.heap.size a b):a.grownBy b row:=⟨h.os,h.tape,h.output,h.size,fun i hi _=>h.block i hi⟩
end
section
variable {P : Program}
end
end Go.Proofs.YtoljpfapphoflaaGreatDoor.RkO

set_option maxRecDepth 512
namespace Go.Proofs.YtoljpfapphoflaaGreatDoor.RkC
open Go.RowKit RkO BxD
theorem bl_irrefl : ∀ x:List UInt8,Op.bytesLess x x=false
 | []=>rfl
 | a::x=>by
  have h : ¬ a<a:=by rw [UInt8.lt_iff_toNat_lt]; omega
  simp [Op.bytesLess,bl_irrefl x,h]
theorem bl_tri : ∀ x y:List UInt8,Op.bytesLess x y=false->Op.bytesLess y x=false->x=y
 | [],[],_,_=>rfl
 | [],_::_,h,_=>by simp [Op.bytesLess] at h
 | _::_,[],_,h=>by simp [Op.bytesLess] at h
 | a::x,b::y,h1,h2=>by
  simp only [Op.bytesLess,Bool.or_eq_false_iff,decide_eq_false_iff_not,UInt8.lt_iff_toNat_lt,Bool.and_eq_false_iff] at h1 h2;have e:a=b:=UInt8.toNat_inj.1 (by omega);subst e;have:=bl_tri x y (by simpa using h1.2) (by simpa using h2.2);rw [this]
theorem bl_trans : ∀ x y z:List UInt8,Op.bytesLess x y=true->Op.bytesLess y z=true->Op.bytesLess x z=true
 | _,_,[],_,h=>by cases ‹List UInt8› <;> simp [Op.bytesLess] at h
 | [],_,_::_,_,_=>by simp [Op.bytesLess]
 | _::_,[],_::_,h,_=>by simp [Op.bytesLess] at h
 | a::x,b::y,c::z,h1,h2=>by
  simp only [Op.bytesLess,Bool.or_eq_true,decide_eq_true_eq,UInt8.lt_iff_toNat_lt,Bool.and_eq_true,beq_iff_eq] at h1 h2 ⊢;rcases h1 with h1 | ⟨rfl,h1⟩
  · rcases h2 with h2 | ⟨rfl,h2⟩
    · left; omega
    · left; exact h1
  · rcases h2 with h2 | ⟨rfl,h2⟩
    · left; exact h2
    · right; exact⟨rfl,bl_trans x y z h1 h2⟩
theorem ba_ext {a b:ByteArray} (h:a.toList=b.toList):a=b:=by
 rw [ByteArray.toList_eq,ByteArray.toList_eq] at h;cases a; cases b
 congr 1
 exact Array.ext' h
def cmpS (a b:ByteArray):Int:=if Op.bytesLess a.toList b.toList then -1 else if a.toList==b.toList then 0 else 1
theorem cmpS_neg {a b:ByteArray} : cmpS a b<0↔Op.bytesLess a.toList b.toList=true:=by
 unfold cmpS;split
 · rename_i h; simp [h]
 · rename_i h
   split <;> simp [h]
theorem cmpS_pos {a b:ByteArray} : 0<cmpS a b↔Op.bytesLess b.toList a.toList=true:=by
 unfold cmpS;split
 · rename_i h
   constructor
   · intro h2; omega
   · intro h2
     have:=bl_trans _ _ _ h h2;rw [bl_irrefl] at this; cases this
 · rename_i h
   split
   · rename_i h2
     have e:a.toList=b.toList:=by simpa using h2
     rw [e,bl_irrefl]; simp
   · rename_i h2
     have hne:a.toList≠b.toList:=by simpa using h2
     constructor
     · intro _
       cases h3:Op.bytesLess b.toList a.toList with
       | true=>rfl
       | false=>exact absurd (bl_tri _ _ (by simpa using h) h3) hne
     · intro _; decide
theorem ordS:Ord cmpS:=by
 refine⟨fun a b=>?_,fun a b=>?_,fun a b c h1 h2=>?_⟩
 · constructor
   · intro h
     have h1:Op.bytesLess a.toList b.toList=false:=by
      cases h3:Op.bytesLess a.toList b.toList with
      | false=>rfl
      | true=>have:=cmpS_neg.2 h3; omega
     have h2:Op.bytesLess b.toList a.toList=false:=by
      cases h3:Op.bytesLess b.toList a.toList with
      | false=>rfl
      | true=>have:=cmpS_pos.2 h3; omega
     exact ba_ext (bl_tri _ _ h1 h2)
   · rintro rfl
     unfold cmpS;simp [bl_irrefl]
 · rw [cmpS_neg,cmpS_pos]
 · rw [cmpS_neg] at *
   exact bl_trans _ _ _ h1 h2
theorem cb_eq : ∀ x y:List UInt8,Lib.compareBytes x y=if Op.bytesLess x y then -1 else if x==y then 0 else 1
 | [],[]=>by simp [Lib.compareBytes,Op.bytesLess]
 | [],_::_=>by simp [Lib.compareBytes,Op.bytesLess]
 | _::_,[]=>by simp [Lib.compareBytes,Op.bytesLess]
 | a::x,b::y=>by
  have ih:=cb_eq x y;unfold Lib.compareBytes;by_cases h1:a<b
  · simp [h1,Op.bytesLess]
  · by_cases h2:b<a
    · have hne : ¬ a=b:=by rintro rfl; exact h1 h2
      have hne2:(a==b)=false:=by simpa using hne
      simp [h1,h2,Op.bytesLess,hne2,hne]
    · have e:a=b:=by
       rw [UInt8.lt_iff_toNat_lt] at h1 h2;exact UInt8.toNat_inj.1 (by omega)
      subst e;rw [if_neg h1,if_neg h1,ih];simp [Op.bytesLess,h1]
theorem cmp_cb (a b:ByteArray):Lib.compareBytes a.data.toList b.data.toList=cmpS a b:=by
 rw [cb_eq]; unfold cmpS;rw [ByteArray.toList_eq,ByteArray.toList_eq]
end Go.Proofs.YtoljpfapphoflaaGreatDoor.RkC

set_option maxRecDepth 512
namespace Go.Proofs.YtoljpfapphoflaaGreatDoor.RkD
open Go.RowKit RkO RkC BxD
abbrev F:Type:=ByteArray × List UInt8
structure Ch where
 name:ByteArray
 cut:Bool
 data:List UInt8
def costs (l:List F):Nat:=(l.map fun f=>f.1.size+f.2.length+8).sum
def okN (s:ByteArray):Bool:=decide (1<=s.size/\s.size<=24)
abbrev putF (n:ByteArray) (d:List UInt8) (l:List F):List F:=put cmpS n d l
abbrev cutF (n:ByteArray) (l:List F):List F:=cut cmpS n l
abbrev hitF (n:ByteArray) (l:List F):Bool:=hit cmpS n l
abbrev SrtF (l:List F):Prop:=Srt cmpS l
def doneC (l:List F) (c:Ch):List F:=if c.cut then cutF c.name l else putF c.name c.data l
structure St where
 room:Nat
 sure:List F
 files:List F
 loose:List Ch
 writes:Nat
 down:Bool
 fuse:Option Nat
def newS (room:Int):St:=⟨(max 0 (min room 1000000)).toNat,[],[],[],0,false,none⟩
def goE (s:St):Int:=if s.fuse=some 0 then 5 else 0
def goS (s:St) (c:Ch) (nx:List F):St :=
 if s.fuse=some 0 then { s with down:=true } else { s with files:=nx,loose:=s.loose++[c],writes:=s.writes+1,fuse:=s.fuse.map (· - 1) }
def wrBad (n:ByteArray) (d:List UInt8):Bool:=!okN n||decide (200000<d.length)
def wrFull (s:St) (n:ByteArray) (d:List UInt8):Bool:=decide (40<(putF n d s.files).length)||decide (s.room<costs (putF n d s.files))
def wrE (s:St) (n:ByteArray) (d:List UInt8):Int:=if wrBad n d then 1 else if s.down then 5 else if wrFull s n d then 4 else goE s
def wrS (s:St) (n:ByteArray) (d:List UInt8):St:=if wrBad n d then s else if s.down then s else if wrFull s n d then s else goS s ⟨n,false,d⟩ (putF n d s.files)
def ctE (s:St) (n:ByteArray):Int:=if !okN n then 1 else if s.down then 5 else if !hitF n s.files then 6 else goE s
def ctS (s:St) (n:ByteArray):St:=if !okN n then s else if s.down then s else if !hitF n s.files then s else goS s ⟨n,true,[]⟩ (cutF n s.files)
def flE (s:St):Int:=if s.down then 5 else 0
def flS (s:St):St:=if s.down then s else { s with sure:=s.files,loose:=[] }
def rdF (s:St) (n:ByteArray):Option (List UInt8):=if s.down then none else match s.files[lo cmpS n s.files]? with
 | some f=>if f.1=n then some f.2 else none
 | none=>none
structure Fok (k:Nat) (l:List F):Prop where
 srt:SrtF l
 len:l.length<=k
 sz : ∀ f∈l,f.1.size<=24/\f.2.length<=200000
def Cok (c:Ch):Prop:=c.name.size<=24/\c.data.length<=200000
structure Ok (k:Nat) (s:St):Prop where
 room:s.room<=1000000
 sure:Fok s.sure.length s.sure
 files:Fok k s.files
 loose:s.sure.length+s.loose.length<=k
 ch : ∀ c∈s.loose,Cok c
 writes:s.writes<=k
theorem costs_append (a b:List F):costs (a++b)=costs a+costs b:=by simp [costs]
theorem costs_le : ∀ {l:List F},(∀ f∈l,f.1.size<=24/\f.2.length<=200000)->costs l<=l.length*200032
 | [],_=>by simp [costs]
 | f::r,h=>by
  have h1:=h f (List.mem_cons_self ..);have h2:=costs_le (l:=r) fun g hg=>h g (List.mem_cons_of_mem _ hg);simp only [costs,List.map_cons,List.sum_cons,List.length_cons] at h2 ⊢;omega
theorem costs_take {l:List F} {i:Nat} {f:F} (h:l[i]? = some f):costs (l.take (i+1))=costs (l.take i)+(f.1.size+f.2.length+8):=by
 obtain⟨hl,rfl⟩:=List.getElem?_eq_some_iff.1 h;rw [List.take_succ_eq_append_getElem hl,costs_append]; simp [costs]
theorem Fok.cost {k:Nat} {l:List F} (h:Fok k l):costs l<=k*200032:=Nat.le_trans (costs_le h.sz) (Nat.mul_le_mul_right _ h.len)
theorem Fok.mono {k m:Nat} {l:List F} (h:Fok k l) (hk:k<=m):Fok m l:=⟨h.srt,Nat.le_trans h.len hk,h.sz⟩
theorem Fok.nil (k:Nat):Fok k []:=⟨List.Pairwise.nil,Nat.zero_le _,fun f hf=>by simp at hf⟩
theorem mem_put {n:ByteArray} {d:List UInt8} {l:List F} {f:F} (h:f∈putF n d l):f=(n,d)\/f∈l:=by
 unfold putF put at h;split at h
 · unfold upd at h
   rcases List.mem_or_eq_of_mem_set h with h | h
   · exact .inr h
   · exact .inl h
 · unfold ins at h
   rw [List.mem_append,List.mem_cons] at h;rcases h with h | h | h
   · exact .inr (List.mem_of_mem_take h)
   · exact .inl h
   · exact .inr (List.mem_of_mem_drop h)
theorem mem_cut {n:ByteArray} {l:List F} {f:F} (h:f∈cutF n l):f∈l:=by
 unfold cutF cut at h;split at h
 · rw [List.mem_append] at h
   rcases h with h | h
   · exact List.mem_of_mem_take h
   · exact List.mem_of_mem_drop h
 · exact h
theorem Fok.put {k:Nat} {l:List F} (h:Fok k l) {n:ByteArray} {d:List UInt8} (hn:n.size<=24) (hd:d.length<=200000):Fok (k+1) (putF n d l):=by
 refine⟨srt_put ordS h.srt, ?_,fun f hf=>?_⟩
 · have:=h.len
   rw [length_put];split <;> omega
 · rcases mem_put hf with rfl | hf
   · exact⟨hn,hd⟩
   · exact h.sz f hf
theorem Fok.cut {k:Nat} {l:List F} (h:Fok k l) {n:ByteArray} : Fok k (cutF n l):=by
 refine⟨srt_cut h.srt, ?_,fun f hf=>h.sz f (mem_cut hf)⟩;have:=h.len;rw [length_cut];split <;> omega
theorem Fok.self {k:Nat} {l:List F} (h:Fok k l):Fok l.length l:=⟨h.srt,Nat.le_refl _,h.sz⟩
theorem Ok.mono {k m:Nat} {s:St} (h:Ok k s) (hk:k<=m):Ok m s:=⟨h.room,h.sure,h.files.mono hk,Nat.le_trans h.loose hk,h.ch,Nat.le_trans h.writes hk⟩
theorem Ok.new (r:Int):Ok 0 (newS r):=⟨by show (max 0 (min r 1000000)).toNat<=1000000; omega,Fok.nil _,Fok.nil _,Nat.le_refl _,fun c hc=>by simp [newS] at hc,Nat.le_refl _⟩
theorem Ok.go {k:Nat} {s:St} (h:Ok k s) {c:Ch} {nx:List F} (hc:Cok c) (hn:Fok (k+1) nx):Ok (k+1) (goS s c nx):=by
 unfold goS;split
 · exact⟨h.room,h.sure,h.files.mono (Nat.le_succ k),Nat.le_trans h.loose (Nat.le_succ k),h.ch,Nat.le_trans h.writes (Nat.le_succ k)⟩
 · refine⟨h.room,h.sure,hn, ?_, ?_,Nat.succ_le_succ h.writes⟩
   · have:=h.loose
     simp; omega
   · intro c' hc'
     rcases List.mem_append.1 hc' with h1 | h1
     · exact h.ch c' h1
     · obtain rfl:=List.mem_singleton.1 h1; exact hc
theorem okN_size {n:ByteArray} (h:okN n=true):1<=n.size/\n.size<=24:=of_decide_eq_true h
theorem wr_ok {n:ByteArray} {d:List UInt8} (h:wrBad n d=false):n.size<=24/\d.length<=200000:=by
 unfold wrBad at h;rw [Bool.or_eq_false_iff] at h;have h1:=okN_size (n:=n) (by simpa using h.1);have h2:=of_decide_eq_false h.2;omega
theorem Ok.wr {k:Nat} {s:St} (h:Ok k s) (n:ByteArray) (d:List UInt8):Ok (k+1) (wrS s n d):=by
 unfold wrS;cases hb:wrBad n d with
 | true=>rw [if_pos rfl]; exact h.mono (Nat.le_succ k)
 | false =>
  rw [if_neg (by decide)];split
  · exact h.mono (Nat.le_succ k)
  · split
    · exact h.mono (Nat.le_succ k)
    · obtain⟨h1,h2⟩:=wr_ok hb
      exact h.go ⟨h1,h2⟩ (h.files.put h1 h2)
theorem Ok.ct {k:Nat} {s:St} (h:Ok k s) (n:ByteArray):Ok (k+1) (ctS s n):=by
 unfold ctS;cases hb:okN n with
 | false=>rw [if_pos (by rfl)]; exact h.mono (Nat.le_succ k)
 | true =>
  rw [if_neg (by decide)];split
  · exact h.mono (Nat.le_succ k)
  · split
    · exact h.mono (Nat.le_succ k)
    · exact h.go ⟨(okN_size hb).2,Nat.zero_le _⟩ (h.files.cut.mono (Nat.le_succ k))
theorem Ok.fl {k:Nat} {s:St} (h:Ok k s):Ok k (flS s):=by
 unfold flS;split
 · exact h
 · exact⟨h.room,h.files.self,h.files,by simpa using h.files.len,fun c hc=>by simp at hc,h.writes⟩
end Go.Proofs.YtoljpfapphoflaaGreatDoor.RkD

set_option maxRecDepth 100000
namespace Go.Proofs.YtoljpfapphoflaaGreatDoor.RkR
open Go.RowKit BxD BxKit
structure El (t e:TypeId) (z:Value) (sz by_:Nat):Prop where
 und:Tryz.prog.underlying t=some (.slice e)
 info:(Tryz.prog.info? e).map (fun i=>(i.zero,i.size,i.bytes))=some (some z,sz,by_)
 zs:z.cells.size=sz
 pos:0<sz
theorem elS:El 22 9 (.string ⟨#[]⟩) 1 16:=⟨Tryz.underlying22,by kernel_rfl,rfl,by decide⟩
def Src (w:World) (A:Option Addr) (m sz:Nat) (news:List Value):Prop :=
 news.length=m*sz/\(∀ u∈news,u.oneCell'=true)/\(0<m->∃ ad,A=some ad/\∀ j u,news[j]? = some u->w.cell? (ad.add j)=some u)
theorem run_rows {t e:TypeId} {z:Value} {sz by_:Nat} (el:El t e z sz by_) {w:World} {base n m c:Nat} {v:Value} {xs news:List Value} {A:Option Addr} (ty:TypeId) (hown:w.ownsRow base e sz v n xs) (hs:Src w A m sz news)
 (h63:n+m<=maxLen) (hb:(n+m)*by_<=140737488355328) (hbase:base<=w.heap.size) :
 ∃ v' w',(Builtin.append_ #[t,t] ty #[v,.slice A m c]).run Tryz.prog w = .ok v' w'/\w'.ownsRow base e sz v' (n+m) (xs++news)/\w.grownBy w' v.ownBlock /\
  (v'.ownBlock=v.ownBlock\/v'.ownBlock=some w.heap.size):=by
 obtain⟨i0,hi,hz0,hz1,hz2⟩:=info_parts el.info;obtain⟨hl,h1,hc⟩:=hs;by_cases hm:m=0
 · subst hm
   have hn:news=[]:=List.eq_nil_of_length_eq_zero (by rw [hl,Nat.zero_mul]);subst hn;cases A with
   | none =>
    refine⟨v,w, ?_,by simpa using hown,World.grownBy.refl w _,.inl rfl⟩;rcases hown.2 with⟨rfl,rfl⟩ | ⟨g,cap,cur,rfl,_,_,hnc,_⟩
    · simp [Builtin.append_,run_underlying el.und,sizeOf,typeInfo,hi,Builtin.lenOf,Builtin.firstCells]
    · simp [Builtin.append_,run_underlying el.und,sizeOf,typeInfo,hi,Builtin.lenOf,Builtin.firstCells,hnc,storeCells]
   | some ad =>
    obtain⟨v',w',hrun,h2,h3,_,h5⟩:=run_append_own_at (P:=Tryz.prog) w base t ty e i0 z sz by_ el.und hi hz0 hz1 hz2 el.zs el.pos v n xs hown ad 0 c [] (by simp) (by simp) (by simp) h63 hb hbase;exact⟨v',w',hrun,h2,h3,h5⟩
 · obtain⟨ad,rfl,hcell⟩:=hc (by omega)
   obtain⟨v',w',hrun,h2,h3,_,h5⟩:=run_append_own_at (P:=Tryz.prog) w base t ty e i0 z sz by_ el.und hi hz0 hz1 hz2 el.zs el.pos v n xs hown ad m c news hl hcell h1 h63 hb hbase;exact⟨v',w',hrun,h2,h3,h5⟩
theorem wp_rows {t e:TypeId} {z:Value} {sz by_:Nat} (el:El t e z sz by_) {w:World} {base n m c:Nat} {v:Value} {xs news:List Value} {A:Option Addr} {o:Oper} {a:Act} {K:Act->World->Prop} {Q:Exit->Act->World->Prop} (s x:Operand)
 (ho:o.op = .call { callee:=.builtin .append,args:=#[s,x],argTypes:=#[t,t] }) (hs:a.eval s=v) (hx:a.eval x = .slice A m c) (hown:w.ownsRow base e sz v n xs) (hz:Src w A m sz news)
 (h63:n+m<=maxLen) (hb:(n+m)*by_<=140737488355328) (hbase:base<=w.heap.size)
 (h : ∀ v' w',w'.ownsRow base e sz v' (n+m) (xs++news)->w.grownBy w' v.ownBlock->(v'.ownBlock=v.ownBlock\/v'.ownBlock=some w.heap.size)->K (a.put o.dst v') w'):o.wp Tryz.prog a w K Q:=by
 obtain⟨v',w',hrun,h2,h3,h4⟩:=run_rows (c:=c) el o.type hown hz h63 hb hbase;unfold Oper.wp execOp;simp only [ho,resolve,invoke,builtin,Sem.run_bind,Sem.run_pure,Result.andThen_ok,List.map_toArray,List.map_cons,List.map_nil,hs,hx,hrun];exact h v' w' h2 h3 h4
theorem wpList_rows {t e:TypeId} {z:Value} {sz by_:Nat} (el:El t e z sz by_) {w:World} {base n m c:Nat} {v:Value} {xs news:List Value} {A:Option Addr} {ops:Array Oper} {rest:List Oper} {o:Oper} {a:Act} {Q:Exit->Act->World->Prop} (hgd:o.guard=none) (s x:Operand)
 (ho:o.op = .call { callee:=.builtin .append,args:=#[s,x],argTypes:=#[t,t] }) (hs:a.eval s=v) (hx:a.eval x = .slice A m c) (hown:w.ownsRow base e sz v n xs) (hz:Src w A m sz news)
 (h63:n+m<=maxLen) (hb:(n+m)*by_<=140737488355328) (hbase:base<=w.heap.size)
 (h : ∀ v' w',w'.ownsRow base e sz v' (n+m) (xs++news)->w.grownBy w' v.ownBlock->(v'.ownBlock=v.ownBlock\/v'.ownBlock=some w.heap.size)->wpList Tryz.prog ops Q rest (a.put o.dst v') w'):wpList Tryz.prog ops Q (o::rest) a w :=
 wpList_plain hgd fun _ hK=>wp_rows el s x ho hs hx hown hz h63 hb hbase fun v' w' h2 h3 h4=>hK _ _ (h v' w' h2 h3 h4)
theorem step_rows {t e:TypeId} {z:Value} {sz by_:Nat} (el:El t e z sz by_) {w:World} {base n m c:Nat} {v:Value} {xs news:List Value} {A:Option Addr} {ops:Array Oper} {o:Oper} {a:Act} {K:Act->World->Prop} {Q:Exit->Act->World->Prop} {E:Prop} (hgd:o.guard=none) (s x:Operand)
 (ho:o.op = .call { callee:=.builtin .append,args:=#[s,x],argTypes:=#[t,t] }) (hs:a.eval s=v) (hx:a.eval x = .slice A m c) (hown:w.ownsRow base e sz v n xs) (hz:Src w A m sz news)
 (h63:n+m<=maxLen) (hb:(n+m)*by_<=140737488355328) (hbase:base<=w.heap.size)
 (h : ∀ v' w',w'.ownsRow base e sz v' (n+m) (xs++news)->w.grownBy w' v.ownBlock->(v'.ownBlock=v.ownBlock\/v'.ownBlock=some w.heap.size)->K (a.put o.dst v') w') :
 if Region.wanted o (yielded ops a.tmps)=true then Oper.wp Tryz.prog o a w K Q else E:=by
 have hw:Region.wanted o (yielded ops a.tmps)=true:=by simp [Region.wanted,hgd]
 rw [if_pos hw];exact wp_rows el s x ho hs hx hown hz h63 hb hbase h
theorem own_slice {w:World} {base e sz n:Nat} {v:Value} {xs:List Value} (h:w.ownsRow base e sz v n xs) : ∃ A cp,v = .slice A n cp/\n<=cp:=by
 rcases h.2 with⟨rfl,rfl⟩ | ⟨g,cap,cur,rfl,_,_,hnc,_⟩
 · exact⟨_,_,rfl,Nat.le_refl _⟩
 · exact⟨_,_,rfl,hnc⟩
theorem add_new (g j:Nat):(⟨g,0,none⟩:Addr).add j=⟨g,j,none⟩:=by unfold Addr.add; split <;> simp_all
theorem cell_new (w:World) (cs:Array Value) (t:TypeId) (j:Nat):(w.alloc (.cells cs t)).cell? ((⟨w.heap.size,0,none⟩:Addr).add j)=cs[j]?:=by
 rw [add_new,cell_of_row _ w.heap.size j cs t (0,0) (heap_alloc_new w _)]
theorem src_new (w:World) (cs:Array Value) (t:TypeId) {b m sz:Nat} (hb:b=w.heap.size) (hl:cs.size=m*sz) (h1 : ∀ u∈cs.toList,u.oneCell'=true):Src (w.alloc (.cells cs t)) (some ⟨b,0,none⟩) m sz cs.toList:=by
 subst hb;exact⟨by simpa using hl,h1,fun _=>⟨_,rfl,fun j u hu=>by rw [cell_new]; simpa using hu⟩⟩
end Go.Proofs.YtoljpfapphoflaaGreatDoor.RkR
