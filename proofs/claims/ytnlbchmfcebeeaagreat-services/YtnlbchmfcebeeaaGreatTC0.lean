import Derived.Test.YtnlbchmfcebeeaaGreatTB3
import Derived.Deep.RegionWith
set_option maxHeartbeats 12800000
set_option maxRecDepth 100000
namespace Go.Proofs.YtnlbchmfcebeeaaGreat
open Go.Proofs.Tryz Ch
open Go.RowKit
open Value(int slice bool pointer string agg tuple)
open IntKind(i64)
open Obj(cells)
open Ending(returned)
open Operand(tmp)
open Or(inl inr)
theorem vq:(prog.info? 5).map (λi=>(i.zero,i.size,i.bytes))=some (some (int .u8 0),1,1):=bZ
theorem g_{n}(h:-9223372036854775808<=n/\n<=9223372036854775807):IntKind.i64.wrap n=n:=by rw[nX];omega
theorem BB{n}(h:0<=n/\n<=255):IntKind.u8.wrap n=n:=by rw[IntKind.wrap_u8];omega
def aF(l:List Int):List Value:=l.map (Value.int .u8)
theorem Hq{w base v l}(h:w.ownsRow base 5 1 v l.length (aF l)):
 (convert 47 9 v).run prog w= .ok (string (strOfNums l)) w:=by
 rcases h.2 with⟨rfl,F⟩|⟨g,D,E,rfl,hb,G,r⟩
 ·have:=sV F;subst this;exact run_convert_bytes_nil w 47 5 underlying47 underlying5 0 0 9 underlying9
 refine lU w 47 5 underlying47 underlying5 g 0 l.length D l rfl ?_ 9 underlying9;intro i hi;rw[eG,h.cellAt i oQ];grind[aF]
namespace Ch
def vt(t:ByteArray)(c:Int):Nat->Nat->List Int->List Int
 |0,_,acc=>acc
 |f+1,k,acc=>if k+1<t.size then(if af t k !=c then vt t c f (k+2) (acc++[af t k,af t (k+1)])else vt t c f (k+2) acc)else acc
def qU(s:Sd)(c:Int):Sd:={s with tm:=strOfNums (vt s.tm c s.tm.size 0 [])}
theorem FN{t c f k acc}(h:¬k+1<t.size):vt t c f k acc=acc:=by
 cases f with
 |zero=>rfl
 |succ f=>grind[vt]
def vu(t:ByteArray):Nat->Nat->List Int->List Int
 |0,_,acc=>acc
 |f+1,k,acc=>if k+1<t.size then vu t f (k+2) (acc++[af t k,af t (k+1)-1])else acc
def tick(s:Sd):Sd:={s with tm:=strOfNums (vu s.tm s.tm.size 0 [])}
theorem So{t f k acc}(h:¬k+1<t.size):vu t f k acc=acc:=by
 cases f with
 |zero=>rfl
 |succ f=>grind[vu]
end Ch
theorem FO w b o pre s F T c(h:fq w b pre s F T)(hw:s.Wf)(ho:pre.length=o)(iL:s.tm.size<=1000):
 Calls prog 224 #[pointer (some ⟨b,o,none⟩),int .u8 c] w λx w'=>x=returned (tuple #[])/\fq w' b pre (qU s c) F T/\Kp (λk=>k=b) w w':=by
 subst ho;have⟨i0,hi,hz0,hz1,hz2⟩:=cr vq;have ab:=h.lt;go_in;go_wp
 go_loopg [4,5] s.tm.size (λf v i wr=>∃(k:Nat) (acc:List Int),i= int i64 k/\k<=s.tm.size+1/\s.tm.size<=f+k/\acc.length<=k/\Hid (vt s.tm c s.tm.size 0 []=vt s.tm c f k acc)/\
  wr.ownsRow w.heap.size 5 1 v acc.length (aF acc)/\Kp bA w wr)
 case atStart=>exact⟨0,[],rfl,aA _,aC _,aC _,ag rfl,cd _ _ _ _,Kp.refl _ _⟩
 case round=>
  obtain⟨k,acc,rfl,hk,hf,Y,Q,G,I⟩:=hrel;have O:=h.aB I (λx=>x);have ct:=O.tm hw;by_cases E:k+1<s.tm.size
  ·obtain⟨f,rfl⟩:∃f,gk=f+1:=⟨gk-1,oQ⟩
   have Z:(k:Int)+1<(s.tm.size:Int):=oQ;have am:(k:Int)<s.tm.size:=oQ;have p0:af s.tm k=((s.tm[k]'oQ).toNat:Int):=by simp[af,show k<s.tm.size by omega]
   have p1:af s.tm (k+1)=((s.tm[k+1]'E).toNat:Int):=by simp[af,E]
   cases q:(((s.tm[k]'oQ).toNat:Int)!=c)with
   |false=>
    have J:=ag (Q.trans (show _=vt s.tm c f (k+2) acc by simp[vt,E,p0];intro x;simp at q;exact absurd q x));have D:=bw G I;go_wp2;go_roundg f
    case measure=>omega
    case rel=>exact⟨k+2,acc,eb,oQ,oQ,oQ,J,D.1,D.2⟩
   |true=>?_
   have J:=ag (Q.trans (show _=vt s.tm c f (k+2) (acc++[((s.tm[k]'oQ).toNat:Int),((s.tm[k+1]'E).toNat:Int)])by simp[vt,E,p0,p1];intro x;simp at q;exact absurd x q));have D:=bw G I;have XD:IntKind.i64.wrap ((k:Int)+1)=(k:Int)+1:=g_ oQ;have ap:(0:Int)<=(k:Int)+1:=oQ;go_upto_region 5 with fail;go_region_law (refine jf rfl (tmp 24) (tmp 38) 47 rfl w.heap.size 5 i0 (int .u8 0) 1 1 underlying47 hi hz0 hz1 hz2 rfl aV _ acc.length (aF acc) (by simp[Act.eval];rfl) (by exact D.1.alloc _) ⟨wr.heap.size,0,none⟩ 2 2 [int .u8 ((s.tm[k]'oQ).toNat:Int),int .u8 ((s.tm[k+1]'E).toNat:Int)] nQ rfl (by exact ox _ _ _ _) (by intro u hu;simp at hu;rcases hu with rfl|rfl<;>rfl) aV wY oQ (by have:=D.2.size;simp;omega) ?_;intro g aa w3 U g3;have R:Kp bA w w3:=Kp.grown (by exact(D.2.alloc _).drew) g3 (λk hk ao=>by have:=(D.1.lt k hk).1;omega);have H3:=bw U R)
   all_goals
    have⟨U,R⟩:=H3;go_wp2;go_roundg f
    case measure=>omega
    case rel=>exact⟨k+2,_,eb,oQ,oQ,by simp;omega,J,by simpa[aF]using U,R⟩
  have aj:¬(k:Int)+1<(s.tm.size:Int):=oQ;have J:=ag (Q.trans (FN E));have ad:=Hq G;have ft:=O.free (pre.length+32);have D:=bw O I;go_wp2;go_end0
  have⟨O,I⟩:=D;have X:=O.NH hw (strOfNums acc);rw[<-J]at X⊢;exact⟨rfl,X,(I.mono gM).setCell jF _⟩
theorem Sp w b o pre s E T(h:fq w b pre s E T)(hw:s.Wf)(ho:pre.length=o)(iL:s.tm.size<=1000)(R:∀k,k<s.tm.size->1<=af s.tm k):
 Calls prog 123 #[pointer (some ⟨b,o,none⟩)] w λx w'=>x=returned (tuple #[])/\fq w' b pre (Ch.tick s) E T/\Kp (λk=>k=b) w w':=by
 subst ho;have⟨i0,hi,hz0,hz1,hz2⟩:=cr vq;have aj:=h.lt;go_in;go_wp
 go_loopg [2,3] s.tm.size (λf v i wr=>∃(k:Nat) (acc:List Int),i= int i64 k/\k<=s.tm.size+1/\s.tm.size<=f+k/\acc.length<=k/\Hid (vu s.tm s.tm.size 0 []=vu s.tm f k acc)/\
  wr.ownsRow w.heap.size 5 1 v acc.length (aF acc)/\Kp bA w wr)
 case atStart=>exact⟨0,[],rfl,aA _,aC _,aC _,ag rfl,cd _ _ _ _,Kp.refl _ _⟩
 case round=>
  obtain⟨k,acc,rfl,hk,hf,aa,Y,J,G⟩:=hrel;have I:=h.aB G (λx=>x);have ct:=I.tm hw;by_cases D:k+1<s.tm.size
  ·obtain⟨f,rfl⟩:∃f,gk=f+1:=⟨gk-1,oQ⟩
   have ab:(k:Int)+1<(s.tm.size:Int):=oQ;have ap:(k:Int)<s.tm.size:=oQ;have p0:af s.tm k=((s.tm[k]'oQ).toNat:Int):=by simp[af,show k<s.tm.size by omega]
   have X:af s.tm (k+1)=((s.tm[k+1]'D).toNat:Int):=by simp[af,D]
   have b1:=R (k+1) D;rw[X]at b1;have b2:=NC s.tm (k+1);rw[X]at b2;have O:=ag (Y.trans (show _=vu s.tm f (k+2) (acc++[((s.tm[k]'oQ).toNat:Int),(((s.tm[k+1]'D).toNat:Int)-1)])by simp[vu,D,p0,X]));have F:=bw J G;have aS:IntKind.u8.wrap (((s.tm[k+1]'D).toNat:Int)-1)=((s.tm[k+1]'D).toNat:Int)-1:=BB oQ;have XD:IntKind.i64.wrap ((k:Int)+1)=(k:Int)+1:=g_ oQ;have aO:(0:Int)<=(k:Int)+1:=oQ;go_upto_region 4 with fail;go_region_law (refine jf rfl (tmp 14) (tmp 29) 47 rfl w.heap.size 5 i0 (int .u8 0) 1 1 underlying47 hi hz0 hz1 hz2 rfl aV _ acc.length (aF acc) (by simp[Act.eval];rfl) (by exact F.1.alloc _) ⟨wr.heap.size,0,none⟩ 2 2 [int .u8 ((s.tm[k]'oQ).toNat:Int),int .u8 (((s.tm[k+1]'D).toNat:Int)-1)] nQ rfl (by exact ox _ _ _ _) (by intro u hu;simp at hu;rcases hu with rfl|rfl<;>rfl) aV wY oQ (by have:=F.2.size;simp;omega) ?_;intro g ad w3 U g3;have Q:Kp bA w w3:=Kp.grown (by exact(F.2.alloc _).drew) g3 (λk hk aI=>by have:=(F.1.lt k hk).1;omega);have H3:=bw U Q)
   all_goals
    have⟨U,Q⟩:=H3;go_wp2;go_roundg f
    case measure=>omega
    case rel=>exact⟨k+2,_,eb,oQ,oQ,by simp;omega,O,by simpa[aF]using U,Q⟩
  have ao:¬(k:Int)+1<(s.tm.size:Int):=oQ;have O:=ag (Y.trans (So D));have am:=Hq J;have ft:=I.free (pre.length+32);have F:=bw I G;go_wp2;go_end0
  have⟨I,G⟩:=F;have Z:=I.NH hw (strOfNums acc);rw[<-O]at Z⊢;exact⟨rfl,Z,(G.mono gM).setCell jF _⟩
namespace Ch
def mn(t:ByteArray):Nat->Nat->Option Nat
 |0,_=>none
 |f+1,k=>if k+1<t.size then(if af t (k+1)==48 then some k else mn t f (k+2))else none
theorem Hr{t f k}(h:¬k+1<t.size):mn t f k=none:=by
 cases f with
 |zero=>rfl
 |succ f=>grind[mn]
def cC(s:Sd):Int×Bool×Sd:=match mn s.tm s.tm.size 0 with
 |some k=>(af s.tm k,true,{s with tm:=s.tm.extract 0 k++s.tm.extract (k+2) s.tm.size})
 |none=>(0,false,s)
def Hs(t:ByteArray):Nat->Nat->Bool
 |0,_=>true
 |f+1,k=>if k+1<t.size then(if ez (af t k)&& !decide (af t (k+1)<49)&& !decide (57<af t (k+1))then Hs t f (k+2)else false)else true
theorem VN{t f k}(h:¬k+1<t.size):Hs t f k=true:=by
 cases f with
 |zero=>rfl
 |succ f=>simp[Hs,h]
def mJ(t:ByteArray):Bool:=if((t.size:Int) % 2 !=0)||decide (16<t.size)then false else Hs t t.size 0
end Ch
theorem Ht w b o pre s E T(h:fq w b pre s E T)(hw:s.Wf)(Y:pre.length=o)(iL:s.tm.size<=1000):
 Calls prog 124 #[pointer (some ⟨b,o,none⟩)] w λx w'=>x=returned (tuple #[int .u8 (cC s).1,bool (cC s).2.1])/\fq w' b pre (cC s).2.2 E T/\Kp (λk=>k=b) w w':=by
 subst Y;have ct:=h.tm hw;have ft:=h.free (pre.length+32);have J:=ag h;go_in;go_wp;go_loopg [4] s.tm.size (λf i wr=>∃k:Nat,i= int i64 k/\k<=s.tm.size+1/\s.tm.size<=f+k/\Hid (mn s.tm s.tm.size 0=mn s.tm f k)/\wr=w)
 case atStart=>exact⟨0,rfl,aA _,aC _,ag rfl,rfl⟩
 case round=>
  obtain⟨k,rfl,hk,hf,F,rfl⟩:=hrel;by_cases D:k+1<s.tm.size
  ·obtain⟨f,rfl⟩:∃f,gk=f+1:=⟨gk-1,oQ⟩
   have Q:(k:Int)+1<(s.tm.size:Int):=oQ;have X:(k:Int)<s.tm.size:=oQ;have p0:af s.tm k=((s.tm[k]'oQ).toNat:Int):=by simp[af,show k<s.tm.size by omega]
   have R:af s.tm (k+1)=((s.tm[k+1]'D).toNat:Int):=by simp[af,D]
   cases q:(((s.tm[k+1]'D).toNat:Int)==48)with
   |false=>
    have G:=ag (F.trans (show _=mn s.tm f (k+2)by simp only[mn,D,R,q,aQ];simp));go_wp2;go_roundg f
    case measure=>omega
    case rel=>exact⟨k+2,eb,oQ,oQ,G,rfl⟩
   |true=>?_
   have G:=ag (F.trans (show _=some k by simp only[mn,D,R,q,aQ]));have I:=ag (show cC s=(((s.tm[k]'oQ).toNat:Int),true,{s with tm:=s.tm.extract 0 k++s.tm.extract (k+2) s.tm.size})by unfold cC;rw[G];simp[p0]);have XD:IntKind.i64.wrap ((k:Int)+2)=(k:Int)+2:=g_ oQ;have Z:(0:Int)<=(k:Int)+2:=oQ;have aa:(k:Int)+2<=(s.tm.size:Int):=oQ;have O:=λw'=>my (P:=prog) w' (s.tm.extract 0 k) (s.tm.extract (k+2) s.tm.size) (by simp[ByteArray.size_extract];omega);go_upto_region 6 with fail;go_region
   all_goals
    go_wp2;go_ret2;rw[I];exact⟨rfl,J.NH hw _,((Kp.refl _ _).drew).setCell jF _⟩
  have U:¬(k:Int)+1<(s.tm.size:Int):=oQ;have I:=ag (show cC s=(0,false,s)by unfold cC;rw[F,Hr D]);go_wp2;go_ret2;rw[I];exact⟨rfl,J,Kp.refl _ _⟩
theorem Dt w t(ht:t.size<=9223372036854775807):
 Calls prog 127 #[string t] w λx w'=>x=returned (bool (mJ t))/\w'=w:=by
 cases R:((t.size:Int) % 2 !=0)with
 |true=>
  have E:=ag (show mJ t=false by simp only[mJ,R,Bool.true_or,aQ]);go_in;exact iN E
 |false=>?_
 by_cases hb:16<t.size
 ·have E:=ag (show mJ t=false by simp[mJ,hb]);have O:(16:Int)<t.size:=oQ;go_in;exact iN E
 have O:¬(16:Int)<t.size:=oQ;have X:=ag (show mJ t=Hs t t.size 0 by simp only[mJ,R,Bool.false_or];rw[ax (cX hb)]);go_in;go_wp;go_loopg [3] t.size (λf i wr=>∃k:Nat,i= int i64 k/\k<=t.size+1/\t.size<=f+k/\Hid (mJ t=Hs t f k)/\wr=w)
 case atStart=>exact⟨0,rfl,aA _,aC _,X,rfl⟩
 case round=>
  obtain⟨k,rfl,hk,hf,F,rfl⟩:=hrel;by_cases D:k+1<t.size
  ·obtain⟨f,rfl⟩:∃f,gk=f+1:=⟨gk-1,oQ⟩
   have Q:(k:Int)+1<(t.size:Int):=oQ;have aa:(k:Int)<t.size:=oQ;have G:af t k=((t[k]'oQ).toNat:Int):=by simp[af,show k<t.size by omega]
   have I:af t (k+1)=((t[k+1]'D).toNat:Int):=by simp[af,D]
   have J:=ag (kW ((t[k]'oQ).toNat:Int) wr);cases q:ez ((t[k]'oQ).toNat:Int)with
   |false=>
    have E:=ag (F.trans (show _=false by simp[Hs,D,G,q]));rw[q]at J;clear F G I;go_wp;exact cF J (iN E)
   |true=>?_
   rw[q]at J;by_cases U:((t[k+1]'D).toNat:Int)<49
   ·have E:=ag (F.trans (show _=false by simp[Hs,D,G,I,q];intro x;omega));clear F G I;go_wp;exact cF J (iN E)
   have ab:decide (((t[k+1]'D).toNat:Int)<49)=false:=il;by_cases q3:57<((t[k+1]'D).toNat:Int)
   ·have E:=ag (F.trans (show _=false by simp[Hs,D,G,I,q];intro x y;omega));clear F G I U;go_wp;exact cF J (iN E)
   have Y:=ag (F.trans (show _=Hs t f (k+2)by simp[Hs,D,G,I,q];intro x;omega));have ad:decide (57<((t[k+1]'D).toNat:Int))=false:=il;clear F G I U q3;go_wp;refine cF J ?_;go_wp2;go_roundg f
   case measure=>omega
   case rel=>exact⟨k+2,eb,oQ,oQ,Y,rfl⟩
  have Z:¬(k:Int)+1<(t.size:Int):=oQ;have E:=ag (F.trans (VN D));clear F;exact iN E
theorem fJ{P E rest o a w Q}(F:o.guard=none)t parts(G:o.op= .build t parts)cells D(I:parts.toList.map (λp=>(p.1,a.eval p.2))=D)(hb:P.built t D=some cells)(h:wpList P E Q rest (a.put o.dst (agg cells)) w):wpList P E Q (o::rest) a w:=
 have e:(parts.map λ(i,x)=>(i,a.eval x)).toList=D:=by simp_all
 wpList_build F t parts G (by rw[e,hb];rfl) (by rw[e,hb];exact h)
theorem ur{α:Type}(l:List α)(h:l.length=16):∃O Q R U X Y Z a7 a8 a9 E F D G I J,l=[O,Q,R,U,X,Y,Z,a7,a8,a9,E,F,D,G,I,J]:=by
 match l,h with
 | [O,Q,R,U,X,Y,Z,a7,a8,a9,E,F,D,G,I,J],_=>simp_all
def aN(s:Sd):List Value:=s.act.map Value.bool++dK s
theorem dp{s}(hw:s.Wf):(aN s).length=36:=by simp[aN,dK,bP,hw.1,hw.2]
theorem mK s:(aN s).toArray.all (λx=>x.oneCell')=true:=by
 apply gH.2;intro x D;simp only[aN,dK,bP,kP,cS,gY,dB,gJ,gK]at D;rcases D with⟨a,_,rfl⟩|⟨a,_,rfl⟩|rfl|rfl|rfl|rfl<;>rfl
theorem jc{s}(hw:s.Wf):(aN s).toArray.size=36:=by simp[dp hw]
theorem iD{s}(hw:s.Wf):(prog.info? 95).map (·.size)=some ((aN s).toArray).size:=by rw[jc hw];exact dh
theorem OV Z a1 a2 a3 a4 a5 a6 a7 a8 a9 Q R D U X Y p0 p1 p2 p3 p4 p5 p6 p7 p8 p9 G I J O E F tm x y z:
 prog.built 95 [(0,agg #[bool Z,bool a1,bool a2,bool a3,bool a4,bool a5,bool a6,bool a7,bool a8,bool a9,bool Q,bool R,bool D,bool U,bool X,bool Y]),(1,agg #[int .u8 p0,int .u8 p1,int .u8 p2,int .u8 p3,int .u8 p4,int .u8 p5,int .u8 p6,int .u8 p7,int .u8 p8,int .u8 p9,int .u8 G,int .u8 I,int .u8 J,int .u8 O,int .u8 E,int .u8 F]),(2,string tm),(3,int i64 x),(4,int i64 y),(5,int i64 z)]=
  some #[bool Z,bool a1,bool a2,bool a3,bool a4,bool a5,bool a6,bool a7,bool a8,bool a9,bool Q,bool R,bool D,bool U,bool X,bool Y,int .u8 p0,int .u8 p1,int .u8 p2,int .u8 p3,int .u8 p4,int .u8 p5,int .u8 p6,int .u8 p7,int .u8 p8,int .u8 p9,int .u8 G,int .u8 I,int .u8 J,int .u8 O,int .u8 E,int .u8 F,string tm,int i64 x,int i64 y,int i64 z]:=bZ
theorem Hu s(hw:s.Wf):
 prog.built 95 [(0,agg (s.act.map Value.bool).toArray),(1,agg (bP s.b_).toArray),(2,string s.tm),(3,int i64 s.x),(4,int i64 s.y),(5,int i64 s.z)]=some (aN s).toArray:=by
 have⟨act,b_,tm,x,y,z⟩:=s;have⟨h1,h2⟩:=hw;simp only at h1 h2;obtain⟨Z,a1,a2,a3,a4,a5,a6,a7,a8,a9,Q,R,D,U,X,Y,rfl⟩:=ur act h1;obtain⟨p0,p1,p2,p3,p4,p5,p6,p7,p8,p9,G,I,J,O,E,F,rfl⟩:=ur b_ h2;exact OV Z a1 a2 a3 a4 a5 a6 a7 a8 a9 Q R D U X Y p0 p1 p2 p3 p4 p5 p6 p7 p8 p9 G I J O E F tm x y z
theorem Lj O Q R U X Y Z p7 p8 p9 F G I J D E:
 prog.built 95 [(1,agg #[int .u8 O,int .u8 Q,int .u8 R,int .u8 U,int .u8 X,int .u8 Y,int .u8 Z,int .u8 p7,int .u8 p8,int .u8 p9,int .u8 F,int .u8 G,int .u8 I,int .u8 J,int .u8 D,int .u8 E])]=some #[bool false,bool false,bool false,bool false,bool false,bool false,bool false,bool false,bool false,bool false,bool false,bool false,bool false,bool false,bool false,bool false,int .u8 O,int .u8 Q,int .u8 R,int .u8 U,int .u8 X,int .u8 Y,int .u8 Z,int .u8 p7,int .u8 p8,int .u8 p9,int .u8 F,int .u8 G,int .u8 I,int .u8 J,int .u8 D,int .u8 E,string ByteArray.empty,int i64 0,int i64 0,int i64 0]:=bZ
namespace Ch
def dL(ss:List St):Sd:=⟨eX,eN ss,ByteArray.empty,0,0,0⟩
theorem qV ss:(dL ss).Wf:=⟨rfl,gR ss⟩
def l8:Sd:=⟨eX,zn,ByteArray.empty,0,0,0⟩
theorem nH:l8.Wf:=⟨rfl,rfl⟩
end Ch
theorem Hw ss:prog.built 95 [(1,agg (bP (eN ss)).toArray)]=some (aN (dL ss)).toArray:=by
 unfold aN dK dL;have⟨p0,p1,p2,p3,p4,p5,p6,p7,p8,p9,AW,AX,AY,AZ,A0,A2,e⟩:=ur (eN ss) (gR ss);rw[e];exact Lj p0 p1 p2 p3 p4 p5 p6 p7 p8 p9 AW AX AY AZ A0 A2
theorem OW Z oo w ss(hS:rN w Z oo ss):
 Calls prog 70 #[pointer (some ⟨Z,oo,none⟩)] w λx w'=>x=returned (agg (aN (dL ss)).toArray)/\Kp bA w w':=by
 have⟨ds,hds,iT⟩:=g7;have⟨dm,XE,hdb⟩:=FK;have F:rN (w.alloc (cells uW 95)) _ _ _:=hS.alloc _;have I:(w.alloc (cells uW 95)).heap[w.heap.size]? =_:=ak _ _;have K1:=kG w (cells uW 95);have E0:=ag (w_ Z oo (w.alloc (cells uW 95)) ss F);have Sk:=tq (gR ss);have NJ:(prog.info? 93).map (·.size)=some ((bP (eN ss)).toArray).size:=by rw[Sk];exact nF
 have Sl:=x_ (eN ss);have D:=Hw ss;have HB:=ag D;clear D;have Q:=iD (qV ss);have Yx:=jc (qV ss);have Y:=mK (dL ss);clear hS F;go_in;go_wp;refine b9 E0 ?_;intro E U;have J:=U.at_ I (λx=>x);have K3:=K1.trans U;have R:=aR J;have G:=ak E (cells kb 93);clear I K1 U E0;generalize (bP (eN ss)).toArray=L at*;generalize hM:(aN (dL ss)).toArray=M at*;have HM:=ag hM;clear hM;have X:((E.alloc (cells kb 93)).setRow E.heap.size L).heap[E.heap.size]? =_:=an _ _ _ _ _ _ G;have O:((E.alloc (cells kb 93)).setRow E.heap.size L).heap[w.heap.size]? =some (cells uW 95):=by
  rw[cN _ _ _ _ oQ,cE _ _ _ R];exact J
 have K4:Kp _ _ (((E.alloc (cells kb 93)).setRow E.heap.size L).setRow w.heap.size M):=((K3.alloc _).setRow (λx=>oQ) _).setRow (λx=>oQ) _;go_wp2_with (first|(refine fJ rfl 95 #[(1,.tmp 6)] rfl M [(1,agg L)] ?_ HB ?_;rfl)|refine bJ L G NJ Sk.symm Sl ?_|refine ns rfl 93 (tmp 3) rfl E.heap.size rfl 93 L (0,0) dm X XE (by cases dm<;>simp_all [ee]) NJ ?_|refine bJ M O Q Yx.symm Y ?_);refine aJ (results_cell_row rfl _ _ w.heap.size 95 M (0,0) ds rfl (an _ _ _ _ _ _ O) hds (by cases ds<;>simp_all [ee]) Q) rfl ?_;rw[HM];exact⟨rfl,K4⟩
def dW(w:World)(base:Nat)(v:Value)(G:List Value):Prop:=
 (v= slice none 0 0/\G=[])\/
 ∃g F D E,v= slice (some ⟨g,F,none⟩) G.length D/\base<=g/\w.heap[g]? =some (cells E 5 (0,0))/\G.length<=D/\F+D<=E.size/\∀j u,G[j]? =some u->E[F+j]? =some u
theorem Du g T f:∀ F o (w:World) E,w.heap[g]? =some (cells E T f)->o+F.length<=E.size->
 ∃D,(w.setCells g o F).heap[g]? =some (cells D T f)/\D.size=E.size/\(∀j,j<o->D[j]? =E[j]?)/\∀j u,F[j]? =some u->D[o+j]? =some u:=by
 intro F;induction F with
 |nil=>intro o w E h _;exact⟨E,h,rfl,λ_ _=>rfl,dy⟩
 |cons v F G=>?_
 intro o w E h hs;simp only[e_]at hs;have⟨D,h1,h2,h3,h4⟩:=G (o+1) (w.setCell ⟨g,o,none⟩ v) (E.setIfInBounds o v) (ar v h) il;refine⟨D,h1,by simpa using h2,λj hj=>?_,λj u hu=>?_⟩
 ·grind
 grind
theorem BC g:∀ D o (w:World),w.grownBy (w.setCells g o D) (some g):=by
 intro D;induction D with
 |nil=>intro o w;exact⟨rfl,rfl,rfl,aC _,λ_ _ _=>rfl⟩
 |cons v D E=>?_
 intro o w;have h:=E (o+1) (w.setCell ⟨g,o,none⟩ v);refine⟨h.os,h.tape,h.output,by have:=h.size;rw[World.size_setCell]at this;exact this,λk hk hn=>?_⟩;rw[World.setCells,h.block k (cX hk) hn];exact lS _ _ _ _ (λe=>hn (by simp[e]))
theorem dW.lt{w base v G}(h:dW w base v G):∀k,v.ownBlock=some k->base<=k/\k<w.heap.size:=by
 intro k hk;rcases h with⟨rfl,_⟩|⟨g,F,D,E,rfl,hb,I,_⟩
 ·simp[Value.ownBlock]at hk
 simp[Value.ownBlock]at hk;grind
theorem dW.block{w base v G}(h:dW w base v G){k}(hk:v.ownBlock=some k):∃D,w.heap[k]? =some (cells D 5 (0,0)):=by
 rcases h with⟨rfl,_⟩|⟨g,F,E,D,rfl,hb,I,_⟩
 ·simp[Value.ownBlock]at hk
 simp[Value.ownBlock]at hk;simp_all
theorem dW.ne{w base v D}(h:dW w base v D){b}{c}{T}{f}(hb:w.heap[b]? =some (cells c T f))(E:T≠5):v.ownBlock≠some b:=by
 intro hk;have⟨cur,hg⟩:=h.block hk;simp_all
theorem dW.aB{S w w' base v G}(h:dW w base v G)(k:Kp S w w')(hs:∀i,v.ownBlock=some i->¬S i):dW w' base v G:=by
 rcases h with h|⟨g,F,D,E,rfl,hb,I,r⟩
 ·exact inl h
 exact inr ⟨g,F,D,E,rfl,hb,k.at_ I (hs g rfl),r⟩
theorem dW.alloc{w base v D}(h:dW w base v D)o:dW (w.alloc o) base v D:=
 h.aB (S:=bA) ((Kp.refl _ _).alloc _) (λ_ _ x=>x)
theorem dW.ofRow{w base D v n G}(h:w.ownsRow D 5 1 v n G)(hb:base<=D):dW w base v G:=by
 rcases h.2 with⟨rfl,rfl⟩|⟨g,E,F,rfl,R,J,Q,_,I,U⟩
 ·exact inl ⟨rfl,sV (cX h.1)⟩
 have O:G.length=n:=cX h.1;refine inr ⟨g,0,E,F,by rw[O],oQ,J,oQ,oQ,λj u hu=>?_⟩;grind
theorem dW.len{w base v E}(h:dW w base v E):∃F D,v= slice F E.length D:=by
 rcases h with⟨rfl,rfl⟩|⟨g,I,D,G,rfl,_⟩
 ·simp_all
 simp_all
theorem ya w ty{base}{v}{I}(h:dW w base v I)U m c D(hl:D.length=m)(hm:0<m)(G:∀j u,D[j]? =some u->w.cell? (U.add j)=some u)(h1:∀u∈D,u.oneCell'=true)(hb:I.length+m<=140737488355328)(O:base<=w.heap.size):
 ∃g F E w',(Builtin.append_ #[47,47] ty #[v,slice (some U) m c]).run prog w= .ok (slice (some ⟨g,F,none⟩) (I.length+m) E) w'/\
  dW w' base (slice (some ⟨g,F,none⟩) (I.length+m) E) (I++D)/\w.grownBy w' v.ownBlock/\(v.ownBlock=some g\/w.heap.size<=g):=by
 have⟨i0,hi,hz0,hz1,hz2⟩:=cr vq;have Y:I.length+m<=maxLen:=wY;rcases h with⟨rfl,rfl⟩|⟨g,F,E,J,rfl,aa,hg,ab,iL,hx⟩
 ·have⟨v',w',R,ho,hgr,_⟩:=run_append_own (P:=prog) w w.heap.size 47 ty 5 i0 (int .u8 0) 1 1 underlying47 hi hz0 hz1 hz2 rfl aV (slice none 0 0) 0 [] (cd _ _ _ _) U m c D (cX hl) G h1 (cX Y) (cX hb) (aC _);obtain⟨g,E,rfl⟩:=jn ho oQ;refine⟨g,0,E,w',by simpa using R,?_,by simpa[Value.ownBlock]using hgr,inr (ho.lt g rfl).1⟩;grind[dW.ofRow]
 by_cases Q:I.length+m<=E
 ·have R:=run_append_room_cells (P:=prog) w 47 ty 5 i0 underlying47 hi g F I.length E U m c D (by rw[hz1];omega) G h1 Q
   (λj hj=>by rw[hz1,nt w g _ J _ _ hg];simp;omega) (λj hj=>by simp[World.frozen?,hg])
  rw[hz1,Nat.mul_one]at R;have⟨cur',c1,c2,c3,c4⟩:=Du g 5 (0,0) D (F+I.length) w J hg oQ;refine⟨g,F,E,_,R,inr ⟨g,F,E,cur',by simp[hl],aa,c1,by simp[hl];omega,oQ,λj u hu=>?_⟩,BC g _ _ _,inl rfl⟩;grind
 have⟨v',w',R,ho,hgr⟩:=run_append_arg_grows (P:=prog) w 47 ty 5 i0 (int .u8 0) 1 1 underlying47 hi hz0 hz1 hz2 rfl aV ⟨g,F,none⟩ I.length E I dy
  (λj u hu=>by
   have Z:(⟨g,F,none⟩:Addr).add j=⟨g,F+j,none⟩:=by unfold Addr.add;split<;>simp_all
   rw[Z,nt w g _ J _ _ hg];exact hx j u hu) U m c D (cX hl) G oQ Y oQ
 obtain⟨g',X,rfl⟩:=jn ho oQ;exact⟨g',0,X,w',R,dW.ofRow ho O,⟨hgr.os,hgr.tape,hgr.output,hgr.size,λk hk _=>hgr.block k hk dy⟩,inr (ho.lt g' rfl).1⟩
theorem im{J rest o a w Q}(U:o.guard=none)s x(X:o.op= .call {callee:=.builtin .append,args:=#[s,x],argTypes:=#[47,47]}){base}{v}{O}(hs:a.eval s=v)(h:dW w base v O)R m c D(hx:a.eval x= slice (some R) m c)(hl:D.length=m)(hm:0<m)(I:∀j u,D[j]? =some u->w.cell? (R.add j)=some u)(Y:∀u∈D,u.oneCell'=true)(hb:O.length+m<=140737488355328)(G:base<=w.heap.size)(Z:∀g F E w',dW w' base (slice (some ⟨g,F,none⟩) (O.length+m) E) (O++D)->w.grownBy w' v.ownBlock->(v.ownBlock=some g\/w.heap.size<=g)->
  wpList prog J Q rest (a.put o.dst (slice (some ⟨g,F,none⟩) (O.length+m) E)) w'):wpList prog J Q (o::rest) a w:=
 wpList_plain U λK hK'=>by
  have⟨g,F,E,w',hr,r1,r2,r3⟩:=ya w o.type h R m c D hl hm I Y hb G;unfold Oper.wp execOp;simp only[X,resolve,invoke,builtin,kQ,np,kR,List.map_toArray,nY,List.map_nil,hs,hx,hr];exact hK' _ _ (Z g F E w' r1 r2 r3)
theorem Dv{O o a w K Q E}(X:o.guard=none)s x(Y:o.op= .call {callee:=.builtin .append,args:=#[s,x],argTypes:=#[47,47]}){base}{v}{R}(hs:a.eval s=v)(h:dW w base v R)U m c D(hx:a.eval x= slice (some U) m c)(hl:D.length=m)(hm:0<m)(J:∀j u,D[j]? =some u->w.cell? (U.add j)=some u)(Z:∀u∈D,u.oneCell'=true)(hb:R.length+m<=140737488355328)(I:base<=w.heap.size)(hK:∀g G F w',dW w' base (slice (some ⟨g,G,none⟩) (R.length+m) F) (R++D)->w.grownBy w' v.ownBlock->(v.ownBlock=some g\/w.heap.size<=g)->
  K (a.put o.dst (slice (some ⟨g,G,none⟩) (R.length+m) F)) w'):if Region.wanted o (yielded O a.tmps)=true then Oper.wp prog o a w K Q else E:=by
 have hw:Region.wanted o (yielded O a.tmps)=true:=by simp[Region.wanted,X]
 rw[aq hw];have⟨g,G,F,w',hr,r1,r2,r3⟩:=ya w o.type h U m c D hl hm J Z hb I;unfold Oper.wp;simp[execOp,Y,resolve,invoke,builtin,hs,hx,hr,Result.andThen];exact hK g G F w' r1 r2 r3
theorem mL{w base v l}(h:dW w base v (aF l)):
 (convert 47 9 v).run prog w= .ok (string (strOfNums l)) w:=by
 rcases h with⟨rfl,G⟩|⟨g,F,D,E,rfl,hb,I,O,hs,Q⟩
 ·have:l=[]:=by cases l with|nil=>rfl|cons a l=>simp[aF]at G
  subst this;exact run_convert_bytes_nil w 47 5 underlying47 underlying5 0 0 9 underlying9
 have J:(aF l).length=l.length:=by simp[aF]
 rw[J];refine lU w 47 5 underlying47 underlying5 g F l.length D l rfl ?_ 9 underlying9;intro i hi;rw[nt w g _ E _ _ I];grind[aF]
theorem gT(w:World)x T:∀j u,[x][j]? =some u->(w.alloc (cells #[x] T)).cell? ((⟨w.heap.size,0,none⟩:Addr).add j)=some u:=by
 intro j u D;match j,D with
 |0,D=>simp at D;subst D;simp[Addr.add]
theorem gh l a:aF (l++[a])=aF l++[int .u8 a]:=by simp[aF]
namespace Ch
def hJ(ss:List St)(k:Nat):Int:=match ss[k]? with|some s=>s.name|none=>0
def jU(ss:List St)(s:Sd)(k:Nat):List Int:=((List.range k).filter λ(j:Nat)=>has s.act (j:Int)).map (hJ ss)
def kI(ss:List St)(s:Sd)(k:Nat):List Int:=((List.range k).filter (fZ ss)).map (cf s)
theorem D3 ss s k:jU ss s (k+1)=jU ss s k++if has s.act (k:Int)then[hJ ss k]else[]:=by
 unfold jU;rw[lT,gZ,nZ];grind
theorem OX ss s k:kI ss s (k+1)=kI ss s k++if fZ ss k then[cf s k]else[]:=by
 unfold kI;rw[lT,gZ,nZ];grind
theorem yc ss s k:(jU ss s k).length<=k:=by
 grind[has,jU]
theorem BD ss s k:(kI ss s k).length<=k:=by
 grind[fZ,kI]
def j1(ss:List St)(s:Sd):ByteArray:=strOfNums (jU ss s (min ss.length 16))
def jI(ss:List St)(s:Sd):ByteArray:=strOfNums (kI ss s (min ss.length 16))
end Ch
def mM(v u:Value):Prop:=∀k,v.ownBlock=some k->u.ownBlock≠some k
def Bq(w:World)(b:Nat)(D E F G I J:Value):World:=
 (((((w.setCell ⟨b,0,none⟩ D).setCell ⟨b,1,none⟩ E).setCell ⟨b,2,none⟩ F).setCell ⟨b,3,none⟩ G).setCell ⟨b,4,none⟩ I).setCell ⟨b,5,none⟩ J
theorem D4{w b c0 c1 c2 c3 c4 c5 T}(h:w.heap[b]? =some (cells #[c0,c1,c2,c3,c4,c5] T (0,0)))D E F G I J:
 (Bq w b D E F G I J).heap[b]? =some (cells #[D,E,F,G,I,J] T (0,0)):=by
 unfold Bq;rw[ar _ (ar _ (ar _ (ar _ (ar _ (ar _ h)))))];rfl
theorem NK w b D E F G I J:Kp (λk=>k=b) w (Bq w b D E F G I J):=
 (((((((Kp.refl _ _).setCell jF _).setCell jF _).setCell jF _).setCell jF _).setCell jF _).setCell jF _)
theorem oK ob oo w ss b o pre s ap T(hS:rN w ob oo ss)(hl:ss.length<=1000)(h:fq w b pre s ap T)(hw:s.Wf)(ho:pre.length=o):
 Calls prog 44 #[pointer (some ⟨b,o,none⟩),pointer (some ⟨ob,oo,none⟩)] w λx w'=>
  x=returned (agg #[string (j1 ss s),string (jI ss s),string s.tm,int i64 s.x,int i64 s.y,int i64 s.z])/\Kp bA w w':=by
 subst ho;have ad:rN (w.alloc (cells #[string ⟨#[]⟩,string ⟨#[]⟩,string ⟨#[]⟩,int i64 0,int i64 0,int i64 0] 26)) _ _ _:=hS.alloc _;have aO:(w.alloc (cells #[string ⟨#[]⟩,string ⟨#[]⟩,string ⟨#[]⟩,int i64 0,int i64 0,int i64 0] 26)).heap[w.heap.size]? =_:=ak _ _;have K1:=kG w (cells #[string ⟨#[]⟩,string ⟨#[]⟩,string ⟨#[]⟩,int i64 0,int i64 0,int i64 0] 26);have h1:=h.aB K1 (λx=>x);clear hS h;go_in;go_wp;generalize w.alloc (cells #[string ⟨#[]⟩,string ⟨#[]⟩,string ⟨#[]⟩,int i64 0,int i64 0,int i64 0] 26)=w1 at ad aO K1 h1⊢;have a7:=aR aO;go_loopw [5,6,7] (λav pv i wr=>∃k:Nat,i= int i64 k/\k<=16/\k<=ss.length/\dW wr w1.heap.size av (aF (jU ss s k))/\dW wr w1.heap.size pv (aF (kI ss s k))/\mM av pv/\Kp bA w1 wr) (λ_ _ i _=>16-(intOf i).toNat)
 case atStart=>exact⟨0,rfl,aA _,aA _,inl ⟨rfl,by simp[jU,aF]⟩,inl ⟨rfl,by simp[kI,aF]⟩,by intro k hk;simp[Value.ownBlock]at hk,Kp.refl _ _⟩
 case round=>
  obtain⟨k,rfl,Sj,bc,Z,qp,I,J⟩:=hrel;have U:=ad.aB J (λx=>x) (λ_ _ _ x=>x);have X:=J.at_ aO (λx=>x);have hd:=h1.aB J (λx=>x);have la:=yc ss s k;have lp:=BD ss s k;by_cases aI:k<ss.length/\k<16
  ·have⟨a4,h16⟩:=aI;obtain⟨st,hs⟩:∃s,ss[k]? =some s:=⟨_,au a4⟩
   have a6:(k:Int)<ss.length:=oQ;have zb:(k:Int)<16:=oQ;have sa:=D3 ss s k;have sp:=OX ss s k;have aa:hJ ss k=st.name:=by simp[hJ,hs]
   have O:fZ ss k=(st.kind==5):=by simp[fZ,hs]
   have⟨g,cap,c2,a0,a1,a2,a3⟩:=U.at_ hs;have E1:=ag (lu wr b pre.length pre s.act (dK s++ap) T k hd hw.1 rfl);cases qh:Ch.has s.act (k:Int)with
   |true=>
    rw[qh]at E1;have HA:=ag (show jU ss s (k+1)=jU ss s k++[st.name]by rw[sa,qh];simp[aa]);cases qk:st.kind==5 with
    |true=>
     have HP:=ag (show kI ss s (k+1)=kI ss s k++[cf s k]by rw[sp,O,qk];simp);clear sa sp aa O;go_wp;refine b9 E1 ?_;intro w2 e2;rw[e2];clear e2 E1;go_wp2_with (at_builtin;refine im rfl (tmp 26) (tmp 35) rfl rfl (Z.alloc _) ⟨wr.heap.size,0,none⟩ 1 1 [int .u8 st.name] rfl rfl aV (by exact gT _ _ _) Ki (by simp[aF];omega) (by have:=J.size;simp;omega) ?_);intro ga oa ca w3 Y g3 D;have R:=((Kp.refl _ _).alloc _).grown g3 (λi hi _=>hi);have XF:=J.trans' R (λi hi x=>by have:=(Z.lt i x).1;omega);have am:=qp.aB R (λi hi x=>I i x hi);have VO:mM (slice (some ⟨ga,oa,none⟩) ((aF (jU ss s k)).length+1) ca) u6:=by
      intro i hi x;simp[Value.ownBlock]at hi;subst hi;rcases D with D|D
      ·exact I _ D x
      have:=(qp.lt _ x).2;try simp at D
      omega
     have Sq:=ad.aB XF (λx=>x) (λ_ _ _ x=>x);have aj:=h1.aB XF (λx=>x);rw[<-gh]at Y;have⟨g',cap',c2',a0',a1',a2',a3'⟩:=Sq.at_ hs;clear R g3 D Z qp I J U hd c2 a0 a1 a2 a3 X;have a5:w3.cell? _=some (int .u8 (cf s k)):=aj.b_ hw h16;clear aj Sq;go_wp2_with (at_builtin;refine im rfl (tmp 46) (tmp 53) rfl rfl (am.alloc _) ⟨w3.heap.size,0,none⟩ 1 1 [int .u8 (cf s k)] rfl rfl aV (by exact gT _ _ _) Ki (by simp[aF];omega) (by have:=XF.size;simp;omega) ?_);intro gp op cp w4 ab g4 E;have R:=((Kp.refl _ _).alloc _).grown g4 (λi hi _=>hi);have Dj:=XF.trans' R (λi hi x=>by have:=(am.lt i x).1;omega);have aS:=Y.aB R (λi hi x=>VO i hi x);have Yy:mM (slice (some ⟨ga,oa,none⟩) ((aF (jU ss s k)).length+1) ca) (slice (some ⟨gp,op,none⟩) ((aF (kI ss s k)).length+1) cp):=by
      intro i hi x;simp[Value.ownBlock]at x;subst x;rcases E with E|E
      ·exact VO _ hi E
      have:=(Y.lt _ hi).2;try simp at E
      omega
     rw[<-gh]at ab;clear R g4 E;go_wp2;exact⟨⟨k+1,eb,oQ,oQ,by rw[HA];simpa[aF]using aS,by rw[HP];simpa[aF]using ab,Yy,Dj⟩,ew⟩
    |false=>?_
    have HP:=ag (show kI ss s (k+1)=kI ss s k by rw[sp,O,qk];simp);clear sa sp aa O;go_wp;refine b9 E1 ?_;intro w2 e2;rw[e2];clear e2 E1;go_wp2_with (at_builtin;refine im rfl (tmp 26) (tmp 35) rfl rfl (Z.alloc _) ⟨wr.heap.size,0,none⟩ 1 1 [int .u8 st.name] rfl rfl aV (by exact gT _ _ _) Ki (by simp[aF];omega) (by have:=J.size;simp;omega) ?_);intro ga oa ca w3 Y g3 D;have R:=((Kp.refl _ _).alloc _).grown g3 (λi hi _=>hi);have XF:=J.trans' R (λi hi x=>by have:=(Z.lt i x).1;omega);have am:=qp.aB R (λi hi x=>I i x hi);have VO:mM (slice (some ⟨ga,oa,none⟩) ((aF (jU ss s k)).length+1) ca) u6:=by
     intro i hi x;simp[Value.ownBlock]at hi;subst hi;rcases D with D|D
     ·exact I _ D x
     have:=(qp.lt _ x).2;try simp at D
     omega
    have Sq:=ad.aB XF (λx=>x) (λ_ _ _ x=>x);have aj:=h1.aB XF (λx=>x);rw[<-gh]at Y;have⟨g',cap',c2',a0',a1',a2',a3'⟩:=Sq.at_ hs;clear R g3 D Z qp I J U hd c2 a0 a1 a2 a3 X;clear aj Sq;go_wp2;exact⟨⟨k+1,eb,oQ,oQ,by rw[HA];simpa[aF]using Y,by rw[HP];exact am,VO,XF⟩,ew⟩
   |false=>?_
   rw[qh]at E1;have HA:=ag (show jU ss s (k+1)=jU ss s k by rw[sa,qh];simp);cases qk:st.kind==5 with
   |true=>
    have HP:=ag (show kI ss s (k+1)=kI ss s k++[cf s k]by rw[sp,O,qk];simp);clear sa sp aa O;go_wp;refine b9 E1 ?_;intro w2 e2;rw[e2];clear e2 E1;have a5:wr.cell? _=some (int .u8 (cf s k)):=hd.b_ hw h16;clear hd U;go_wp2_with (at_builtin;refine im rfl (tmp 46) (tmp 53) rfl rfl (qp.alloc _) ⟨wr.heap.size,0,none⟩ 1 1 [int .u8 (cf s k)] rfl rfl aV (by exact gT _ _ _) Ki (by simp[aF];omega) (by have:=J.size;simp;omega) ?_);intro gp op cp w4 ab g4 E;have R:=((Kp.refl _ _).alloc _).grown g4 (λi hi _=>hi);have Dj:=J.trans' R (λi hi x=>by have:=(qp.lt i x).1;omega);have aS:=Z.aB R (λi hi x=>I i hi x);have Yy:mM u5 (slice (some ⟨gp,op,none⟩) ((aF (kI ss s k)).length+1) cp):=by
     intro i hi x;simp[Value.ownBlock]at x;subst x;rcases E with E|E
     ·exact I _ hi E
     have:=(Z.lt _ hi).2;try simp at E
     omega
    rw[<-gh]at ab;clear R g4 E;go_wp2;exact⟨⟨k+1,eb,oQ,oQ,by rw[HA];exact aS,by rw[HP];simpa[aF]using ab,Yy,Dj⟩,ew⟩
   |false=>?_
   have HP:=ag (show kI ss s (k+1)=kI ss s k by rw[sp,O,qk];simp);clear sa sp aa O;go_wp;refine b9 E1 ?_;intro w2 e2;rw[e2];clear e2 E1;clear hd U;go_wp2;exact⟨⟨k+1,eb,oQ,oQ,by rw[HA];exact Z,by rw[HP];exact qp,I,J⟩,ew⟩
  have F:k=min ss.length 16:=oQ;have a9:=mL Z;have a8:=mL qp;have ba:=mL (w:=wr.drew) (base:=w1.heap.size) (by exact Z);have bb:=mL (w:=wr.drew) (base:=w1.heap.size) (by exact qp);have t1:=hd.tm hw;have t2:=hd.cx hw;have t3:=hd.cy hw;have t4:=hd.cz hw;have⟨ao,cap,c2⟩:=U.len;have r0:wr.cell? ⟨w.heap.size,0,none⟩=some (string ⟨#[]⟩):=by simp[World.cell?,X]
  have r1:wr.cell? ⟨w.heap.size,1,none⟩=some (string ⟨#[]⟩):=by simp[World.cell?,X]
  have r2:wr.cell? ⟨w.heap.size,2,none⟩=some (string ⟨#[]⟩):=by simp[World.cell?,X]
  have r3:wr.cell? ⟨w.heap.size,3,none⟩=some (int i64 0):=by simp[World.cell?,X]
  have r4:wr.cell? ⟨w.heap.size,4,none⟩=some (int i64 0):=by simp[World.cell?,X]
  have r5:wr.cell? ⟨w.heap.size,5,none⟩=some (int i64 0):=by simp[World.cell?,X]
  have fr:∀i,wr.frozen? ⟨w.heap.size,i,none⟩=false:=by intro i;simp[World.frozen?,X]
  have HX:=c_ X (K1.trans J) F;clear Z qp I J U hd X F;by_cases a4:k<ss.length
  ·have x1:(k:Int)<ss.length:=oQ;have x2:decide ((k:Int)<16)=false:=il;clear aI;go_upto_region 9 with fail;go_region;go_wp2;have⟨X,J,F⟩:=HX;rw[(by rw[F];rfl:j1 ss s=strOfNums (jU ss s k)),(by rw[F];rfl:jI ss s=strOfNums (kI ss s k))];have Q:=D4 X (string (strOfNums (jU ss s k))) (string (strOfNums (kI ss s k))) (string s.tm) (int i64 s.x) (int i64 s.y) (int i64 s.z);have KX:=NK wr w.heap.size (string (strOfNums (jU ss s k))) (string (strOfNums (kI ss s k))) (string s.tm) (int i64 s.x) (int i64 s.y) (int i64 s.z);change bodyPost _ _ _ _ _ (Bq wr w.heap.size (string (strOfNums (jU ss s k))) (string (strOfNums (kI ss s k))) (string s.tm) (int i64 s.x) (int i64 s.y) (int i64 s.z)).drew
   generalize Bq wr w.heap.size (string (strOfNums (jU ss s k))) (string (strOfNums (kI ss s k))) (string s.tm) (int i64 s.x) (int i64 s.y) (int i64 s.z)=G at Q KX⊢;have z0:G.drew.cell? ⟨w.heap.size,0,none⟩=some (string (strOfNums (jU ss s k))):=show G.cell? _=_ by simp[World.cell?,Q]
   have z1:G.drew.cell? ⟨w.heap.size,1,none⟩=some (string (strOfNums (kI ss s k))):=show G.cell? _=_ by simp[World.cell?,Q]
   have z2:G.drew.cell? ⟨w.heap.size,2,none⟩=some (string s.tm):=show G.cell? _=_ by simp[World.cell?,Q]
   have z3:G.drew.cell? ⟨w.heap.size,3,none⟩=some (int i64 s.x):=show G.cell? _=_ by simp[World.cell?,Q]
   have z4:G.drew.cell? ⟨w.heap.size,4,none⟩=some (int i64 s.y):=show G.cell? _=_ by simp[World.cell?,Q]
   have z5:G.drew.cell? ⟨w.heap.size,5,none⟩=some (int i64 s.z):=show G.cell? _=_ by simp[World.cell?,Q]
   refine aJ (v:=agg #[string (strOfNums (jU ss s k)),string (strOfNums (kI ss s k)),string s.tm,int i64 s.x,int i64 s.y,int i64 s.z]) (by simp[results,Tryz.results44,go_sem,z0,z1,z2,z3,z4,z5]) rfl ?_;exact⟨rfl,(J.trans' KX (λi hi x=>oQ)).drew⟩
  have x1:decide ((k:Int)<(ss.length:Int))=false:=il;clear aI;go_upto_region 9 with fail;go_region;go_wp2;have⟨X,J,F⟩:=HX;rw[(by rw[F];rfl:j1 ss s=strOfNums (jU ss s k)),(by rw[F];rfl:jI ss s=strOfNums (kI ss s k))];have Q:=D4 X (string (strOfNums (jU ss s k))) (string (strOfNums (kI ss s k))) (string s.tm) (int i64 s.x) (int i64 s.y) (int i64 s.z);have KX:=NK wr w.heap.size (string (strOfNums (jU ss s k))) (string (strOfNums (kI ss s k))) (string s.tm) (int i64 s.x) (int i64 s.y) (int i64 s.z);change bodyPost _ _ _ _ _ (Bq wr w.heap.size (string (strOfNums (jU ss s k))) (string (strOfNums (kI ss s k))) (string s.tm) (int i64 s.x) (int i64 s.y) (int i64 s.z)).drew
  generalize Bq wr w.heap.size (string (strOfNums (jU ss s k))) (string (strOfNums (kI ss s k))) (string s.tm) (int i64 s.x) (int i64 s.y) (int i64 s.z)=G at Q KX⊢;have z0:G.drew.cell? ⟨w.heap.size,0,none⟩=some (string (strOfNums (jU ss s k))):=show G.cell? _=_ by simp[World.cell?,Q]
  have z1:G.drew.cell? ⟨w.heap.size,1,none⟩=some (string (strOfNums (kI ss s k))):=show G.cell? _=_ by simp[World.cell?,Q]
  have z2:G.drew.cell? ⟨w.heap.size,2,none⟩=some (string s.tm):=show G.cell? _=_ by simp[World.cell?,Q]
  have z3:G.drew.cell? ⟨w.heap.size,3,none⟩=some (int i64 s.x):=show G.cell? _=_ by simp[World.cell?,Q]
  have z4:G.drew.cell? ⟨w.heap.size,4,none⟩=some (int i64 s.y):=show G.cell? _=_ by simp[World.cell?,Q]
  have z5:G.drew.cell? ⟨w.heap.size,5,none⟩=some (int i64 s.z):=show G.cell? _=_ by simp[World.cell?,Q]
  refine aJ (v:=agg #[string (strOfNums (jU ss s k)),string (strOfNums (kI ss s k)),string s.tm,int i64 s.x,int i64 s.y,int i64 s.z]) (by simp[results,Tryz.results44,go_sem,z0,z1,z2,z3,z4,z5]) rfl ?_;exact⟨rfl,(J.trans' KX (λi hi x=>oQ)).drew⟩
namespace Ch
def Dw(ss:List St)(act left:List Bool)(k:Nat):Bool:=fZ ss k&&has left (aW ss k)&&(uM ss act (aW ss k)!= -2)
def sB(ss:List St)(act left:List Bool):Nat->Nat->List Int->List Int
 |0,_,p=>p
 |f+1,k,p=>sB ss act left f (k+1) (if Dw ss act left k then p.set k (hJ ss (uM ss act (aW ss k)).toNat)else p)
def rem(ss:List St)(s:Sd)(left:List Bool):Sd:={s with b_:=sB ss s.act left (min ss.length 16) 0 s.b_}
theorem yd ss act left:∀ f k p,(sB ss act left f k p).length=p.length:=by
 intro f;induction f with
 |zero=>intro k p;rfl
 |succ f D=>grind[sB]
theorem Yz{ss s}left(h:s.Wf):(rem ss s left).Wf:=⟨h.1,by simp[rem,yd,h.2]⟩
theorem OY ss l parent:∀ f k,nE ss l parent f k≠ -2->∃j:Nat,nE ss l parent f k=j/\j<k+f:=by
 intro f;induction f with
 |zero=>intro k h;exact absurd rfl h
 |succ f D=>?_
 grind[nE]
theorem Sr{ss l parent}(h:(uM ss l parent != -2)=true):∃j:Nat,uM ss l parent=j/\j<ss.length:=by
 grind[OY,uM]
end Ch
theorem FP ob oo w ss b o pre s D T lb lo F l E T'(hS:rN w ob oo ss)(hl:ss.length<=1000)(h:fq w b pre s D T)(hw:s.Wf)(ho:pre.length=o)(hL:lE w lb F l E T')(ad:l.length=16)(aI:F.length=lo)(aS:lb≠b)(wm:ob≠b)(hT:T≠155):
 Calls prog 132 #[pointer (some ⟨b,o,none⟩),pointer (some ⟨ob,oo,none⟩),pointer (some ⟨lb,lo,none⟩)] w λx w'=>x=returned (tuple #[])/\fq w' b pre (Ch.rem ss s l) D T/\Kp (λk=>k=b) w w':=by
 subst ho;have aO:∀i X,w.heap[i]? =some (cells X 155 (0,0))->i≠b:=by
  intro i X hi e;subst e;unfold fq lE at h;rw[h]at hi;simp at hi;exact hT hi.2
 go_enter func132,ntmps132;go_wp;go_loopw [6] (λi wr=>∃(k:Nat) (p:List Int),i= int i64 k/\k<=16/\k<=ss.length/\p.length=16/\Hid (sB ss s.act l (min ss.length 16) 0 s.b_=sB ss s.act l (min ss.length 16-k) k p)/\fq wr b pre {s with b_:=p} D T/\Kp (λk=>k=b) w wr) (λi _=>16-(intOf i).toNat)
 case atStart=>exact⟨0,s.b_,rfl,aA _,aA _,hw.2,ag rfl,h,Kp.refl _ _⟩
 case round=>
  obtain⟨k,p,rfl,Sj,a9,Z,HE,J,O⟩:=hrel;have Q:Sd.Wf {s with b_:=p}:=⟨hw.1,Z⟩
  have I:=hS.aB O wm aO;have aj:=hL.aB O aS;by_cases am:k<ss.length/\k<16
  ·have⟨Y,zb⟩:=am;obtain⟨st,hs⟩:∃s,ss[k]? =some s:=⟨_,au Y⟩
   have a5:(k:Int)<ss.length:=by omega
   have a6:(k:Int)<16:=by omega
   have ef:min ss.length 16-k=(min ss.length 16-(k+1))+1:=by omega
   have R_:aW ss k=st.parent:=by simp[aW,iR,hs]
   have ap:fZ ss k=(st.kind==5):=by simp[fZ,hs]
   have hP:Dw ss s.act l k=((st.kind==5)&&Ch.has l st.parent&&(uM ss s.act st.parent != -2)):=by simp[Dw,R_,ap]
   have⟨g,cap,c2,a0,a1,a2,a3⟩:=I.at_ hs;have U:=ag (lu wr lb lo F l E T' st.parent aj ad aI);have E2:=ag (AE ob oo wr ss b pre.length pre D T {s with b_:=p} st.parent I hl J Q rfl);have step:Dw ss s.act l k=false->sB ss s.act l (min ss.length 16) 0 s.b_=sB ss s.act l (min ss.length 16-(k+1)) (k+1) p:=λq=>by
    rw[HE,ef];simp only[sB];rw[q];rfl
   cases R:st.kind==5 with
   |false=>
    have G:=ag (step (by rw[hP,R];rfl));have a4:(st.kind !=5)=true:=by simp[bne,R]
    go_wp2;exact⟨⟨k+1,p,by go_num,by omega,by omega,Z,G,J,O⟩,ew⟩
   |true=>?_
   have a4:(st.kind !=5)=false:=by simp[bne,R]
   cases q2:Ch.has l st.parent with
   |false=>
    rw[q2]at U;have G:=ag (step (by rw[hP,R,q2];rfl));go_wp;refine cF U ?_;go_wp2;exact⟨⟨k+1,p,by go_num,by omega,by omega,Z,G,J,O⟩,ew⟩
   |true=>?_
   rw[q2]at U;cases q3:uM ss s.act st.parent != -2 with
   |false=>
    have G:=ag (step (by rw[hP,R,q2,q3];rfl));go_wp;refine cF U ?_;go_wp21;refine hm E2 ?_;rintro x w1 ⟨rfl,rfl⟩;go_wp2;exact⟨⟨k+1,p,by go_num,by omega,by omega,Z,G,J,O⟩,ew⟩
   |true=>?_
   have⟨j,ej,hj⟩:=Sr q3;obtain⟨sj,ab⟩:∃s,ss[j]? =some s:=⟨_,au hj⟩
   have a8:(j:Int)<ss.length:=by omega
   have G:=ag (show sB ss s.act l (min ss.length 16) 0 s.b_=sB ss s.act l (min ss.length 16-(k+1)) (k+1) (p.set k sj.name)by
    rw[HE,ef];simp only[sB];rw[aq (by rw[hP,R,q2,q3];rfl),R_,ej];simp[hJ,ab])
   have aa:=J.VI Q zb sj.name;have⟨g',cap',c2',b0,b1,b2,b3⟩:=I.at_ ab;have fr:=J.free (pre.length+16+k);have cp:=J.b_ Q zb;rw[c2]at c2';simp only[bE,aH,cA]at c2';have eg:=c2'.1;simp only[ei,dV]at eg;subst eg;have HS:=ag aa;have ba:((j:Int)!= -2)=true:=by rw[ej]at q3;exact q3
   simp only[ej]at E2;have a7:=zq wr b (pre.length+16) k zb;go_wp;refine hm U ?_;rintro x w1 ⟨rfl,rfl⟩;go_wp2_with fail;refine hm E2 ?_;rintro x w1 ⟨rfl,rfl⟩;go_wp21;go_region;go_wp2;exact⟨⟨k+1,p.set k sj.name,by go_num,by omega,by omega,by simpa using Z,G,HS,(show Kp (λk=>k=b) w (w1.setCell ⟨b,pre.length+16+k,none⟩ (int .u8 sj.name))from O.setCell (by intro _;rfl) _).drew⟩,ew⟩
  have G:=ag (HE.trans (show _=p by rw[show min ss.length 16-k=0 by omega];rfl));have⟨ao,cap,c2⟩:=I.len;by_cases Y:k<ss.length
  ·have x1:(k:Int)<ss.length:=by omega
   have x2:decide ((k:Int)<16)=false:=by simp;omega
   go_wp2;go_end0
   exact⟨rfl,by unfold Ch.rem;rw[G];exact J,O⟩
  have x1:decide ((k:Int)<(ss.length:Int))=false:=by simp;omega
  go_wp2;go_end0
  exact⟨rfl,by unfold Ch.rem;rw[G];exact J,O⟩
theorem fu{P f args w Q R}(h:Hid (Calls P f args w Q))(k:∀e w',Q e w'->R e w'):Calls P f args w R:=bI h k
namespace Ch
def Up(ss:List St):Prop:=∀(k:Nat) s,ss[k]? =some s-> -1<=s.parent/\s.parent<(k:Int)
theorem iE{ss}(h:Up ss)i: -1<=aW ss i:=by
 unfold aW;cases q:uX ss i with
 |none=>simp_all
 |some s=>obtain⟨k,rfl,hs,_⟩:=lq q;exact(h k s hs).1
theorem jA{ss}(h:Up ss){i}(hi:-1<i):aW ss i<i:=by
 unfold aW;cases q:uX ss i with
 |none=>omega
 |some s=>obtain⟨k,rfl,hs,_⟩:=lq q;exact(h k s hs).2
def ye(ss:List St)(D:Int):Nat->Int->Bool
 |0,_=>false
 |f+1,i=>if decide (-1<i)then(if aW ss i==D then true else ye ss D f (aW ss i))else false
def aG(ss:List St)(D low:Int):Bool:=ye ss D (low+1).toNat low
theorem BE ss D f{i}(h:¬-1<i):ye ss D f i=false:=by
 cases f with
 |zero=>rfl
 |succ f=>grind[ye]
def wU(ss:List St)(d target:Int):Bool:=bn ss d==2&&aG ss d target
def uu(ss:List St)(target:Int):Nat->Int->Int
 |0,d=>d
 |f+1,d=>if(d != -1)&& !wU ss d target then uu ss target f (aW ss d)else d
def vg(ss:List St)(state target:Int):Int:=uu ss (place ss target) (aW ss state+1).toNat (aW ss state)
theorem vw ss target f{d}(h:((d != -1)&& !wU ss d target)=false):uu ss target f d=d:=by
 cases f with
 |zero=>rfl
 |succ f=>grind[uu]
end Ch
theorem oS I J w ss D low(R:Up ss)(Q:rN w I J ss)(U:ss.length<=1000):
 Calls prog 218 #[pointer (some ⟨I,J,none⟩),int i64 D,int i64 low] w λx w'=>x=returned (bool (aG ss D low))/\w'=w:=by
 go_in;go_wp;go_loop [7] (λv=>∃(i:Int) (f:Nat),v= int i64 i/\i+1<=(f:Int)/\Hid (aG ss D low=ye ss D f i)) (λv=>(intOf v+1).toNat)
 case atStart=>exact⟨low,(low+1).toNat,rfl,oQ,ag rfl⟩
 case round=>
  obtain⟨i,f,rfl,X,G⟩:=hrel;by_cases E: -1<i
  ·obtain⟨f,rfl⟩:∃g,f=g+1:=⟨f-1,oQ⟩
   have O:=ag (iS I J w ss i Q U);have Y:=jA R E;cases q:aW ss i==D with
   |true=>
    have F:=ag (G.trans (show _=true by simp[ye,E,q]));go_wp;exact cF O (iN F)
   |false=>?_
   have F:=ag (G.trans (show _=ye ss D f (aW ss i)by simp[ye,E,q]));go_wp;refine cF O ?_;go_wp2;exact⟨⟨_,f,rfl,oQ,F⟩,ew⟩
  have F:=ag (G.trans (BE ss D f E));exact iN F
theorem Su D E w ss d target(O:Up ss)(G:rN w D E ss)(I:ss.length<=1000):
 Calls prog 256 #[pointer (some ⟨D,E,none⟩),int i64 d,int i64 target] w λx w'=>x=returned (bool (wU ss d target))/\w'=w:=by
 have F:=ag (nB D E w ss d G I);have J:=ag (oS D E w ss d target O G I);cases q:bn ss d==2 with
 |true=>
  rw[show wU ss d target=aG ss d target by simp[wU,q]];go_in;go_wp;refine cF F ?_;have Q:(bn ss d !=2)=false:=by simp[bne,q]
  go_wp21;refine cF J ?_;exact we
 |false=>?_
 rw[show wU ss d target=false by simp[wU,q]];have Q:(bn ss d !=2)=true:=by simp[bne,q]
 go_in;go_wp;exact cF F we
theorem Lk E F w ss state tg J I gd ta ac(R:Up ss)(hS:rN w E F ss)(U:ss.length<=1000):
 Calls prog 222 #[pointer (some ⟨E,F,none⟩),agg #[int i64 state,int .u8 tg,int .u8 J,int .u8 I,int i64 gd,ac,int .u8 ta]] w λx w'=>x=returned (int i64 (vg ss state ta))/\Kp bA w w':=by
 have D:=hS.alloc (cells #[int i64 state,int .u8 tg,int .u8 J,int .u8 I,int i64 gd,ac,int .u8 ta] 209);have Z:Kp bA w (w.alloc (cells #[int i64 state,int .u8 tg,int .u8 J,int .u8 I,int i64 gd,ac,int .u8 ta] 209)):=(Kp.refl _ _).alloc _;have z0:(w.alloc (cells #[int i64 state,int .u8 tg,int .u8 J,int .u8 I,int i64 gd,ac,int .u8 ta] 209)).cell? ⟨w.heap.size,0,none⟩=some (int i64 state):=by rw[World.cell?,ak];rfl
 go_enter func222,ntmps222;go_wp21;generalize (w.alloc (cells #[int i64 state,int .u8 tg,int .u8 J,int .u8 I,int i64 gd,ac,int .u8 ta] 209))=O at D Z z0⊢;have E1:=ag (oy E F O ss ta D U);have E2:=ag (iS E F O ss state D U);refine hm E1 ?_;rintro x w2 ⟨rfl,rfl⟩;go_wp2_with fail;refine hm E2 ?_;rintro x w2 ⟨rfl,rfl⟩;go_wp2;go_loop [6] (λv=>∃(d:Int) (f:Nat),v= int i64 d/\ -1<=d/\d+1<=(f:Int)/\Hid (vg ss state ta=uu ss (Ch.place ss ta) f d)) (λv=>(intOf v+1).toNat)
 case atStart=>exact⟨_,(aW ss state+1).toNat,rfl,iE R _,by omega,ag rfl⟩
 case round=>
  obtain⟨d,f,rfl,hd,hf,Y⟩:=hrel;cases q1:d != -1 with
  |false=>
   have G:=ag (Y.trans (vw ss _ f (by rw[q1];rfl)));go_wp2;go_ret;exact⟨by rw[G];rfl,Z⟩
  |true=>?_
  have aa: -1<d:=by have:d≠ -1:=by simpa using q1
                    omega
  obtain⟨f,rfl⟩:∃g,f=g+1:=⟨f-1,by omega⟩
  have Q:=ag (Su E F w2 ss d (Ch.place ss ta) R D U);have E4:=ag (iS E F w2 ss d D U);have p1:=jA R aa;have p2:=iE R d;cases X:wU ss d (Ch.place ss ta)with
  |true=>
   rw[X]at Q;have G:=ag (Y.trans (vw ss _ (f+1) (by rw[X];simp)));go_wp21;refine hm Q ?_;rintro x O ⟨rfl,rfl⟩;go_wp2;go_ret;exact⟨by rw[G];rfl,Z⟩
  |false=>?_
  rw[X]at Q;have G:=ag (Y.trans (show _=uu ss (Ch.place ss ta) f (aW ss d)by simp only[uu];rw[q1,X];rfl));go_wp21;refine hm Q ?_;rintro x O ⟨rfl,rfl⟩;go_wp21;refine hm E4 ?_;rintro x O ⟨rfl,rfl⟩;go_wp2;exact⟨⟨_,f,rfl,p2,by omega,G⟩,ew⟩
theorem A3{α:Type}(f:α->List Value)n(E:∀a,(f a).length=n):∀(l:List α) k j a,l[k]? =some a->j<n->(l.flatMap f)[k*n+j]? =(f a)[j]?:=by
 intro l;induction l with
 |nil=>simp_all
 |cons b l F=>?_
 intro k j a h D;rw[qw];cases k with
 |zero=>grind
 |succ k=>?_
 grind
def oT(T:TypeId):Prop:=T=87\/T=119\/T=138
def Pl(w:World)(E D:Nat)(ol:Ol):Prop:=∃sv tv bv lt lb B c T,(w.heap[E]? =some (cells c T (0,0))/\oT T/\c[D+2]? =some sv/\c[D+3]? =some tv/\c[D+4]? =some bv)/\Bw w B ol sv tv bv lt lb
def Vl(T:TypeId):Prop:=oT T\/T=155\/T=209\/T=282\/T=255
theorem Pl.aB{w w' G I ol S}(h:Pl w G I ol)(k:Kp S w w')(hs:∀i E T,w.heap[i]? =some (cells E T (0,0))->Vl T->¬S i):Pl w' G I ol:=by
 have⟨sv,tv,bv,lt,lb,B,c,T,⟨hb,hT,c2,c3,c4⟩,F⟩:=h;have D:∀{base e size v n xs},w.ownsRow base e size v n xs->Vl e->∀i,v.ownBlock=some i->¬S i:=by
  grind[bC]
 exact⟨sv,tv,bv,lt,lb,B,c,T,⟨k.at_ hb (hs _ _ _ hb (inl hT)),hT,c2,c3,c4⟩,k.owns F.ah (D F.ah (inr (inl rfl))),F.G8,k.owns F.dF (D F.dF (inr (inr (inl rfl)))),λx hx=>k.owns (F.kZ x hx) (D (F.kZ x hx) (inr (inr (inr (inr rfl))))),
  F.Kj,k.owns F.fH (D F.fH (inr (inr (inr (inl rfl))))),λx hx=>k.owns (F.uo x hx) (D (F.uo x hx) (inr (inr (inr (inr rfl)))))⟩
theorem Pl.alloc{w D E ol}(h:Pl w D E ol)o:Pl (w.alloc o) D E ol:=
 h.aB (S:=bA) ((Kp.refl _ _).alloc _) (λ_ _ _ _ _ x=>x)
theorem Pl.str{w D E ol}(h:Pl w D E ol):rN w D E ol.ah:=by
 have⟨sv,tv,bv,lt,lb,B,c,T,⟨hb,hT,c2,c3,c4⟩,F⟩:=h;exact⟨sv,B,by simp[World.cell?,hb,c2],F.ah⟩
theorem Pl.aaR{w G I ol}(h:Pl w G I ol):∃E D,w.cell? ⟨G,I+3,none⟩=some (slice E ol.dF.length D):=by
 have⟨sv,tv,bv,lt,lb,B,c,T,⟨hb,hT,c2,c3,c4⟩,F⟩:=h;have⟨E,D,e⟩:=bp F.dF;exact⟨E,D,by rw[<-F.G8,fN,<-e];simp[World.cell?,hb,c3]⟩
theorem Pl.aaS{w G I ol}(h:Pl w G I ol):∃E D,w.cell? ⟨G,I+4,none⟩=some (slice E ol.fH.length D):=by
 have⟨sv,tv,bv,lt,lb,B,c,T,⟨hb,hT,c2,c3,c4⟩,F⟩:=h;have⟨E,D,e⟩:=bp F.fH;exact⟨E,D,by rw[<-F.Kj,fN,<-e];simp[World.cell?,hb,c4]⟩
theorem Pl.tr{w I J ol}(h:Pl w I J ol){k}{t}(E:ol.dF[k]? =some t):
 ∃g D ac B,w.cell? ⟨I,J+3,none⟩=some (slice (some ⟨g,0,none⟩) ol.dF.length D)/\(∀j,j<7->w.cell? ⟨g,k*7+j,none⟩=[Value.int i64 t.state,int .u8 t.uh,int .u8 t.guard.var,int .u8 t.guard.sign,int i64 t.guard.digit,ac,int .u8 t.target][j]?)/\
  w.ownsRow B 255 3 ac t.bM.length (iW t.bM):=by
 have⟨sv,tv,bv,lt,lb,B,c,T,⟨hb,hT,c2,c3,c4⟩,F⟩:=h;rw[<-F.G8,bD]at E;cases G:lt[k]? with
 |none=>simp_all
 |some x=>?_
 rw[G]at E;simp at E;subst E;have hk:=(aM.1 G).1;obtain⟨g,D,rfl⟩:=jn F.dF oQ;refine⟨g,D,x.2,B,by rw[<-F.G8,fN];simp[World.cell?,hb,c3],λj hj=>?_,F.kZ x (aP G)⟩;rw[F.dF.cellAt (k*7+j) oQ];exact A3 _ 7 jF lt k j x G hj
theorem Pl.bl{w I J ol}(h:Pl w I J ol){k}{t}(E:ol.fH[k]? =some t):
 ∃g D ac B,w.cell? ⟨I,J+4,none⟩=some (slice (some ⟨g,0,none⟩) ol.fH.length D)/\(∀j,j<3->w.cell? ⟨g,k*3+j,none⟩=[Value.int i64 t.state,int .u8 t.sign,ac][j]?)/\
  w.ownsRow B 255 3 ac t.bM.length (iW t.bM):=by
 have⟨sv,tv,bv,lt,lb,B,c,T,⟨hb,hT,c2,c3,c4⟩,F⟩:=h;rw[<-F.Kj,bD]at E;cases G:lb[k]? with
 |none=>simp_all
 |some x=>?_
 rw[G]at E;simp at E;subst E;have hk:=(aM.1 G).1;obtain⟨g,D,rfl⟩:=jn F.fH oQ;refine⟨g,D,x.2,B,by rw[<-F.Kj,fN];simp[World.cell?,hb,c4],λj hj=>?_,F.uo x (aP G)⟩;rw[F.fH.cellAt (k*3+j) oQ];exact A3 _ 3 jF lb k j x G hj
structure Ch.Ma where
 s:Sd
 q:List Int
 out:List Int
def j4(w:World)(mb D F:Nat)(s:Sd)(qv E:Value):Prop:=fq w mb [pointer (some ⟨D,F,none⟩)] s [qv,E] 149
section
variable {w:World} {mb ob po:Nat} {s:Sd} {qv ov:Value}
theorem j4.lK(h:j4 w mb ob po s qv ov):w.cell? ⟨mb,0,none⟩=some (pointer (some ⟨ob,po,none⟩)):=by
 unfold j4 fq lE at h;simp[World.cell?,h]
theorem j4.queue(h:j4 w mb ob po s qv ov)(hw:s.Wf):w.cell? ⟨mb,37,none⟩=some qv:=by
 have:=fq.at_ h hw 20;simpa[dK,bP,hw.2,List.getElem?_append]using this
theorem j4.out(h:j4 w mb ob po s qv ov)(hw:s.Wf):w.cell? ⟨mb,38,none⟩=some ov:=by
 have:=fq.at_ h hw 21;simpa[dK,bP,hw.2,List.getElem?_append]using this
theorem j4.Ll(h:j4 w mb ob po s qv ov)(hw:s.Wf)v:j4 (w.setCell ⟨mb,37,none⟩ v) mb ob po s v ov:=by
 have:=fq.Le h hw 20 v;unfold j4 fq;have e:(dK s++[qv,ov]).set 20 v=dK s++[v,ov]:=by
  have D:(dK s).length=20:=by simp[dK,bP,hw.2]
  simp_all
 simp_all
theorem j4.YA(h:j4 w mb ob po s qv ov)(hw:s.Wf)v:j4 (w.setCell ⟨mb,38,none⟩ v) mb ob po s qv v:=by
 have:=fq.Le h hw 21 v;unfold j4 fq;have e:(dK s++[qv,ov]).set 21 v=dK s++[qv,v]:=by
  have D:(dK s).length=20:=by simp[dK,bP,hw.2]
  simp_all
 simp_all
end
def km(B mb:Nat)(w:World)(k:Nat):Prop:=k=mb\/(B<=k/\∃D,w.heap[k]? =some (cells D 5 (0,0)))
theorem Km.trans{B mb a b c}(h:Kp (km B mb a) a b)(k:Kp (km B mb b) b c):Kp (km B mb a) a c:=
 h.trans' k λi hi x=>by
  by_cases q:km B mb a i
  ·exact q
  rcases x with x|⟨x,D,y⟩
  ·exact inl x
  rw[h.block i hi q]at y;exact inr ⟨x,D,y⟩
theorem Pl.km{w w':World}{B mb E F:Nat}{ol:Ol}{c:Array Value}(h:Pl w E F ol)(k:Kp (km B mb w) w w')(hm:w.heap[mb]? =some (cells c 149 (0,0))):Pl w' E F ol:=
 h.aB k λi cur T hi hT x=>by
  rcases x with rfl|⟨_,D,y⟩
  ·rw[hm]at hi;simp at hi;obtain⟨_,rfl⟩:=hi;revert hT;unfold Vl oT;decide
  rw[y]at hi;simp at hi;obtain⟨_,rfl⟩:=hi;revert hT;unfold Vl oT;decide
def Mm(w:World)(B mb E F:Nat)(m:Ma):Prop:=∃qv D,j4 w mb E F m.s qv D/\dW w B qv (aF m.q)/\dW w B D (aF m.out)/\mM qv D
namespace Ch
def Sd.Ok(s:Sd):Prop:=s.Wf/\((-99<=s.x/\s.x<=99)/\(-99<=s.y/\s.y<=99)/\(-99<=s.z/\s.z<=99))/\s.tm.size<=17
def Ac.Ok(a:Ac):Prop:=0<=a.digit/\a.digit<=9
theorem YB{s}(h:s.Ok)c: -99<=var s c/\var s c<=99:=by
 have⟨_,⟨h1,h2,h3⟩,_⟩:=h;grind[var]
def hY(s:Sd)(a:Ac):Int:=if a.sign==43 then var s a.aK+a.digit else if a.sign==45 then var s a.aK-a.digit else a.digit
def tu(s:Sd)(c n:Int):Sd:=if mj n then jb s c n else s
theorem VP{s}(h:s.Ok)c n:(tu s c n).Ok:=by
 unfold tu;split
 ·rename_i q;simp[mj]at q;have⟨h0,⟨h1,h2,h3⟩,h4⟩:=h;unfold jb;split
  ·exact⟨h0,⟨q,h2,h3⟩,h4⟩
  split
  ·exact⟨h0,⟨h1,q,h3⟩,h4⟩
  exact⟨h0,⟨h1,h2,q⟩,h4⟩
 omega
end Ch
section
variable (w:World) (B mb ob po:Nat)
theorem wu m c(h:Mm w B mb ob po m)(hw:m.s.Wf)(hB:B<=w.heap.size)(hq:m.q.length<=1000000000):
 Calls prog 183 #[pointer (some ⟨mb,0,none⟩),int .u8 c] w λx w'=>x=returned (tuple #[])/\Mm w' B mb ob po {m with q:=m.q++[c]}/\Kp (km B mb w) w w':=by
 have⟨qv,ov,hm,oq,oo,ap⟩:=h;have cq:=hm.queue hw;have U:=ag hm;go_in;go_wp2_with (at_builtin;refine im rfl (tmp 8) (tmp 10) rfl rfl (oq.alloc _) ⟨w.heap.size,0,none⟩ 1 1 [int .u8 c] rfl rfl aV (by exact gT _ _ _) Ki (by simp[aF];omega) il ?_);intro Y Z X R I g3 D;have O:=((Kp.refl _ _).alloc _).grown g3 (λi hi _=>hi);have F:j4 _ _ _ _ _ _ _:=fq.aB U O (oq.ne U aV);have E:=oo.aB O (λi hi x=>ap i x hi);have G:mM (slice (some ⟨Y,Z,none⟩) ((aF m.q).length+1) X) ov:=by
  intro i hi x;simp[Value.ownBlock]at hi;subst hi;rcases D with D|D
  ·exact ap _ D x
  have:=(oo.lt _ x).2;try simp at D
  omega
 have J:Kp (km B mb w) w R:=(Kp.refl _ _).trans' O (λi hi x=>inr ⟨(oq.lt i x).1,oq.block x⟩);have aa:=F.queue hw;have ab:=fq.free F 37;have HH:=rP F I E G J;go_wp2;go_end0
 have⟨F,I,E,G,J⟩:=HH;have n1:=I.ne F aV;have n2:=E.ne F aV;have Q:Kp (λk=>k=mb) R (R.setCell ⟨mb,37,none⟩ (slice (some ⟨Y,Z,none⟩) ((aF m.q).length+1) X)):=(Kp.refl _ _).setCell jF _;refine⟨rfl,⟨_,ov,F.Ll hw _,?_,E.aB Q (λi hi x=>by subst x;exact n2 hi),G⟩,J.trans' Q (λi _ x=>inl x)⟩;rw[gh];exact I.aB Q (λi hi x=>by subst x;exact n1 hi)
theorem Mm.turn{w w' B mb ob po m}(h:Mm w B mb ob po m){s}(hk:Kp (λk=>k=mb) w w')(hs:∀qv D,j4 w mb ob po m.s qv D->j4 w' mb ob po s qv D):
 Mm w' B mb ob po {m with s:=s}/\Kp (km B mb w) w w':=by
 have⟨qv,D,hm,oq,oo,ap⟩:=h;have E:=oq.ne hm aV;have F:=oo.ne hm aV;exact⟨⟨qv,D,hs qv D hm,oq.aB hk (λi hi x=>by subst x;exact E hi),oo.aB hk (λi hi x=>by subst x;exact F hi),ap⟩,(Kp.refl _ _).trans' hk (λi _ x=>inl x)⟩
theorem Lo m a(h:Mm w B mb ob po m)(hs:m.s.Ok)(ha:a.Ok):
 Calls prog 225 #[pointer (some ⟨mb,0,none⟩),agg #[int .u8 a.sign,int .u8 a.aK,int i64 a.digit]] w λx w'=>x=returned (bool (mj (hY m.s a)))/\Mm w' B mb ob po {m with s:=tu m.s a.aK (hY m.s a)}/\Kp (km B mb w) w w':=by
 have⟨qv,ov,hm,oq,oo,ap⟩:=h;have K1:=kG w (cells #[int .u8 a.sign,int .u8 a.aK,int i64 a.digit] 255);have e1:=ak w (cells #[int .u8 a.sign,int .u8 a.aK,int i64 a.digit] 255);have E:j4 _ _ _ _ _ _ _:=fq.aB hm K1 (λx=>x);have ab:w.heap.size≠mb:=λe=>by have:=fq.lt hm;omega
 have HQ:=c_ (oq.alloc (cells #[int .u8 a.sign,int .u8 a.aK,int i64 a.digit] 255)) (oo.alloc (cells #[int .u8 a.sign,int .u8 a.aK,int i64 a.digit] 255)) ap;have⟨hd0,hd9⟩:=ha;have hv:=YB hs a.aK;have hw:=hs.1
 have Fin:∀(w':World),fq w' mb [pointer (some ⟨ob,po,none⟩)] (if mj (hY m.s a)then jb m.s a.aK (hY m.s a)else m.s) [qv,ov] 149->Kp (λk=>k=mb) (w.alloc (cells #[int .u8 a.sign,int .u8 a.aK,int i64 a.digit] 255)) w'->
  Mm w' B mb ob po {m with s:=tu m.s a.aK (hY m.s a)}/\Kp (km B mb w) w w':=by
  intro w' aa Z;have⟨J,X,q3⟩:=HQ;have n1:=J.ne E aV;have n2:=X.ne E aV;exact⟨⟨qv,ov,aa,J.aB Z (λi hi x=>by subst x;exact n1 hi),X.aB Z (λi hi x=>by subst x;exact n2 hi),q3⟩,((Kp.refl (km B mb w) w).trans' K1 gM).trans' Z (λi _ x=>inl x)⟩
 have D:=ag Fin;have c0:(w.alloc (cells #[int .u8 a.sign,int .u8 a.aK,int i64 a.digit] 255)).cell? ⟨w.heap.size,0,none⟩=some (int .u8 a.sign):=dG e1 rfl;have c1:(w.alloc (cells #[int .u8 a.sign,int .u8 a.aK,int i64 a.digit] 255)).cell? ⟨w.heap.size,1,none⟩=some (int .u8 a.aK):=dG e1 rfl;have c2:(w.alloc (cells #[int .u8 a.sign,int .u8 a.aK,int i64 a.digit] 255)).cell? ⟨w.heap.size,2,none⟩=some (int i64 a.digit):=dG e1 rfl;have nv:hY m.s a=if a.sign==43 then Ch.var m.s a.aK+a.digit else if a.sign==45 then Ch.var m.s a.aK-a.digit else a.digit:=rfl
 cases J:a.sign==43 with
 |true=>
  have U:hY m.s a=Ch.var m.s a.aK+a.digit:=by rw[nv,J];rfl
  have XD:IntKind.i64.wrap (Ch.var m.s a.aK+a.digit)=Ch.var m.s a.aK+a.digit:=g_ ⟨oQ,oQ⟩;rw[U]at D⊢;go_in;go_upto_region 4 with fail;generalize (w.alloc (cells #[int .u8 a.sign,int .u8 a.aK,int i64 a.digit] 255))=I at E D c0 c1 c2⊢;have Y:=ag (uq I.drew mb 1 [pointer (some ⟨ob,po,none⟩)] m.s [qv,ov] 149 a.aK (by exact E) hw rfl);go_region_with (go_at_call 257;refine cF Y ?_)
  all_goals
   have R:Kp (λk=>k=mb) I _:=(Kp.refl _ _).drew.drew;have O:=ag (py I.drew.drew mb 1 [pointer (some ⟨ob,po,none⟩)] m.s [qv,ov] 149 a.aK (Ch.var m.s a.aK+a.digit) (by exact E) hw rfl);go_upto_region 7 with fail;go_region_with (go_at_call 258;refine b9 O ?_;rintro w3 ⟨G,F⟩;have Q:=bw G F)
   all_goals
    have⟨G,F⟩:=Q;exact iN (D _ G (R.trans F))
 |false=>?_
 cases X:a.sign==45 with
 |true=>
  have U:hY m.s a=Ch.var m.s a.aK-a.digit:=by rw[nv,J,X];rfl
  have XD:IntKind.i64.wrap (Ch.var m.s a.aK-a.digit)=Ch.var m.s a.aK-a.digit:=g_ ⟨oQ,oQ⟩;rw[U]at D⊢;go_in;go_upto_region 6 with fail;generalize (w.alloc (cells #[int .u8 a.sign,int .u8 a.aK,int i64 a.digit] 255))=I at E D c0 c1 c2⊢;have Y:=ag (uq I.drew mb 1 [pointer (some ⟨ob,po,none⟩)] m.s [qv,ov] 149 a.aK (by exact E) hw rfl);go_region_with (go_at_call 257;refine cF Y ?_)
  all_goals
   have R:Kp (λk=>k=mb) I _:=(Kp.refl _ _).drew.drew;have O:=ag (py I.drew.drew mb 1 [pointer (some ⟨ob,po,none⟩)] m.s [qv,ov] 149 a.aK (Ch.var m.s a.aK-a.digit) (by exact E) hw rfl);go_upto_region 7 with fail;go_region_with (go_at_call 258;refine b9 O ?_;rintro w3 ⟨G,F⟩;have Q:=bw G F)
   all_goals
    have⟨G,F⟩:=Q;exact iN (D _ G (R.trans F))
 |false=>?_
 have U:hY m.s a=a.digit:=by rw[nv,J,X];rfl
 rw[U]at D⊢;go_in;go_upto_region 7 with fail;generalize (w.alloc (cells #[int .u8 a.sign,int .u8 a.aK,int i64 a.digit] 255))=I at E D c0 c1 c2⊢;have R:Kp (λk=>k=mb) I _:=(Kp.refl _ _).drew;have O:=ag (py I.drew mb 1 [pointer (some ⟨ob,po,none⟩)] m.s [qv,ov] 149 a.aK (a.digit) (by exact E) hw rfl);go_region_with (go_at_call 258;refine b9 O ?_;rintro w3 ⟨G,F⟩;have Q:=bw G F)
 all_goals
  have⟨G,F⟩:=Q;exact iN (D _ G (R.trans F))
