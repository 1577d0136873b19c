import Derived.Test.YtnlbchmfcebeeaaGreatTF2
import Derived.Test.YtnlbchmfcebeeaaGreatRows
import Derived.ProofKit
import Derived.OpenShut
import Derived.ShutString
import Derived.ChangeOld
import Derived.Below
import Derived.Deep.Slices
set_option maxHeartbeats 12800000
set_option maxRecDepth 100000
namespace Go.Proofs.YtnlbchmfcebeeaaGreat
open Go.Proofs.Tryz Ch
open Go.RowKit
structure zZ where
 kind:Int
 t:ByteArray
 e:ByteArray
 s:As
 n:Int
 at_:Int
 rk:Int
 re:ByteArray
 ra:Int
def UP(o:zZ):List Value:=[.int .i64 o.kind,.string o.t,.string o.e,.string o.s.act,.string o.s.cd,.string o.s.tm,.int .i64 o.s.x,.int .i64 o.s.y,.int .i64 o.s.z,.int .i64 o.n,.int .i64 o.at_,.int .i64 o.rk,.string o.re,.int .i64 o.ra]
def uT(o:zZ):Array Value:=(UP o).toArray
theorem Og(o:zZ):(uT o).size=14:=rfl
theorem GX:(prog.info? 81).map (·.size)=some 14:=by kernel_rfl
theorem Oh:∃d,prog.underlying 81=some d/\dU d=true:=⟨_,underlying81,rfl⟩
def Qw(w:World)(v:Value)(D:List zZ):Prop:=((∃F cap,v= .slice F 0 cap)/\D=[])\/
 ∃g E cap,v= .slice (some ⟨g,E,none⟩) D.length cap/\∀(i:Nat) (o:zZ),D[i]? =some o->∀(j:Nat) (u:Value),(UP o)[j]? =some u->w.cell? ⟨g,E+i*14+j,none⟩=some u
theorem Qw.len{w:World}{v:Value}{D:List zZ}(h:Qw w v D):∃E cap,v= .slice E D.length cap:=by
 rcases h with⟨⟨E,cap,rfl⟩,rfl⟩|⟨g,F,cap,rfl,_⟩
 ·simp_all
 simp_all
theorem Qw.at_{w:World}{v:Value}{E:List zZ}(h:Qw w v E){i:Nat}{o:zZ}(G:E[i]? =some o):∃g D cap,v= .slice (some ⟨g,D,none⟩) E.length cap/\∀(j:Nat) (u:Value),(UP o)[j]? =some u->w.cell? ⟨g,D+i*14+j,none⟩=some u:=by
 rcases h with⟨_,rfl⟩|⟨g,D,cap,I,F⟩
 ·simp_all
 grind
def KB(B:Nat)(w w':World):Prop:=Kp (λi=>B<=i) w w'
theorem Qw.az{w w':World}{v:Value}{E:List zZ}(h:Qw w v E)(k:KB w.heap.size w w'):Qw w' v E:=by
 rcases h with h|⟨g,D,cap,I,G⟩
 ·exact .inl h
 refine .inr ⟨g,D,cap,I,λi o ho j u hu=>?_⟩;have F:=G i o ho j u hu;have hb:g<w.heap.size:=nE w ⟨g,D+i*14+j,none⟩ F;rw[<-F];exact jC (k.block g hb (by omega))
open Go.ChangeShapes Go.WideShapes Go.ChangeAt Go.RowKit Go.Deep
theorem Oi{w w':World}(k:Kp (λ_=>False) w w'):Below w.heap.size w w':=⟨k.os,k.tape,k.output,k.size,λi hi=>k.block i hi (λx=>x)⟩
theorem Le:ownKnob prog.godebug=none:=by kernel_rfl
theorem Oj:laidOutB prog=true:=by kernel_rfl
theorem wA:prog.cellsOf 3=1:=by kernel_rfl
theorem wB:prog.cellsOf 9=1:=by kernel_rfl
theorem DM:prog.cellsOf 26=6:=by kernel_rfl
theorem DN:prog.cellsOf 79=3:=by kernel_rfl
theorem DO:prog.cellsOf 81=14:=by kernel_rfl
section
variable {H:Type} {enc:TypeId×Value->H} {w:World} {base:Nat} {spare:Nat->Bool} {held:Bool}
theorem Rr{n:Nat}{F:List Value}{x:DataW H×List MemPlace}(h:DataW.trod enc prog w base spare held n 26 F=some x):
 ∃a:As,F=[.string a.act,.string a.cd,.string a.tm,.int .i64 a.x,.int .i64 a.y,.int .i64 a.z]/\a.act.size<=maxLen/\a.cd.size<=maxLen/\a.tm.size<=maxLen:=by
 obtain⟨xs,m,_,_,X,E,D⟩:=DataW.trod_struct underlying26 h;rw[DM]at X
 match F,X,D with
 | [c0,c1,c2,c3,c4,c5],_,D=>
   match xs,E,D with
   | [x0,x1,x2,x3,x4,x5],_,D=>
     have J:=D 0 _ rfl;have g1:=D 1 _ rfl;have g2:=D 2 _ rfl;have g3:=D 3 _ rfl;have O:=D 4 _ rfl;have U:=D 5 _ rfl;simp[wA,wB]at J g1 g2 g3 O U;obtain⟨s0,e0,_,Y⟩:=nI underlying9 J;obtain⟨s1,e1,_,Z⟩:=nI underlying9 g1;obtain⟨s2,e2,_,b2⟩:=nI underlying9 g2;obtain⟨s3,e3,_⟩:=l7 underlying3 g3;obtain⟨s4,G,_⟩:=l7 underlying3 O;obtain⟨s5,I,_⟩:=l7 underlying3 U;simp only[List.cons.injEq,dx]at e0 e1 e2 e3 G I;exact⟨⟨s0,s1,s2,s3,s4,s5⟩,by rw[e0,e1,e2,e3,G,I],Y,Z,b2⟩
theorem Rt{n:Nat}{F:List Value}{x:DataW H×List MemPlace}(h:DataW.trod enc prog w base spare held n 79 F=some x):
 ∃(k:Int) (s:ByteArray) (a:Int),F=[.int .i64 k,.string s,.int .i64 a]:=by
 obtain⟨xs,m,_,_,I,E,D⟩:=DataW.trod_struct underlying79 h;rw[DN]at I
 match F,I,D with
 | [c0,c1,c2],_,D=>
   match xs,E,D with
   | [x0,x1,X],_,D=>
     have G:=D 0 _ rfl;have g1:=D 1 _ rfl;have g2:=D 2 _ rfl;simp[wA,wB]at G g1 g2;obtain⟨J,e0,_⟩:=l7 underlying3 G;obtain⟨O,e1,_⟩:=nI underlying9 g1;obtain⟨U,e2,_⟩:=l7 underlying3 g2;simp_all
structure zZ.Sm(o:zZ):Prop where
 t:o.t.size<=maxLen
 e:o.e.size<=maxLen
 act:o.s.act.size<=maxLen
 cd:o.s.cd.size<=maxLen
 tm:o.s.tm.size<=maxLen
theorem Ru{n:Nat}{F:List Value}{x:DataW H×List MemPlace}(h:DataW.trod enc prog w base spare held n 81 F=some x):∃o:zZ,F=UP o/\o.Sm:=by
 obtain⟨xs,m,_,_,Z,E,D⟩:=DataW.trod_struct underlying81 h;rw[DO]at Z
 match F,Z,D with
 | [c0,c1,c2,c3,c4,c5,c6,c7,c8,c9,aa,ad,aj,am],_,D=>
   match xs,E,D with
   | [x0,x1,x2,x3,x4,x5,x6],_,D=>
     have O:=D 0 _ rfl;have g1:=D 1 _ rfl;have g2:=D 2 _ rfl;have g3:=D 3 _ rfl;have U:=D 4 _ rfl;have X:=D 5 _ rfl;have Y:=D 6 _ rfl;simp[wA,wB,DM,DN]at O g1 g2 g3 U X Y;obtain⟨s0,e0,_⟩:=l7 underlying3 O;obtain⟨s1,e1,_,b1⟩:=nI underlying9 g1;obtain⟨s2,e2,_,b2⟩:=nI underlying9 g2;obtain⟨a,e3,b3,b4,b5⟩:=Rr g3;obtain⟨s4,G,_⟩:=l7 underlying3 U;obtain⟨s5,I,_⟩:=l7 underlying3 X;obtain⟨rk,re,ra,J⟩:=Rt Y;simp only[List.cons.injEq,dx]at e0 e1 e2 e3 G I J;obtain⟨f0,f1,f2,f3,f4,f5⟩:=e3;obtain⟨h0,h1,h2⟩:=J;exact⟨⟨s0,s1,s2,a,s4,s5,rk,re,ra⟩,by rw[e0,e1,e2,f0,f1,f2,f3,f4,f5,G,I,h0,h1,h2];rfl,⟨b1,b2,b3,b4,b5⟩⟩
end
theorem DP{H:Type}{enc:TypeId×Value->H}{W:World}{base:Nat}{v:Value}{d:DataW H}{p:List MemPlace}(hv:Value.okWide prog W .any base 22 v)
 (h:DataW.Trod enc prog W 0 (λ_=>true) true 22 v d p):∃U:List zZ,Qw W v U/\U.length<=maxLen/\∀o∈U,o.Sm:=by
 obtain⟨ao,hf⟩:=h;obtain⟨a0,len,cap,rfl⟩:=okWide_slice underlying22 hv
 rcases open_slice underlying22 hf with⟨E,_⟩|⟨a,ap,am,m,n,D,Pl,E,hb,hl,hm,Z,_,X⟩
 ·simp[Value.cells]at E
  obtain⟨rfl,rfl,rfl⟩:=E;exact⟨[],.inl ⟨⟨_,_,rfl⟩,rfl⟩,aG _,by simp⟩
 simp[Value.cells]at E;obtain⟨rfl,rfl,rfl⟩:=E;simp only[aV]at Z;subst Z;rw[DO]at X
 have ad:∀i,i<len->∃o:zZ,o.Sm/\∀j u,(UP o)[j]? =some u->W.cell? (a.add (i*14+j))=some u:=by
  intro i hi;obtain⟨aI,hc,ht⟩:=X i (by omega);obtain⟨o,rfl,aj⟩:=Ru ht;obtain⟨_,_,F⟩:=World.cells?_some hc;refine⟨o,aj,λj u hu=>?_⟩
  have hj:j<14:=by have:=(aJ.1 hu).1;simpa[UP]using this
  rw[<-Go.Deep.add_add,F j hj];omega
 have:Inhabited zZ:=⟨⟨0,⟨#[]⟩,⟨#[]⟩,⟨⟨#[]⟩,⟨#[]⟩,⟨#[]⟩,0,0,0⟩,0,0,0,⟨#[]⟩,0⟩⟩
 obtain⟨f,Y⟩:=choose_lt ad
 by_cases hz:len=0
 ·subst hz
  exact⟨[],.inl ⟨⟨_,_,rfl⟩,rfl⟩,aG _,by simp⟩
 obtain⟨b,O,aa⟩:=a
 have J:aa=none:=by
  have:=(Y 0 (by omega)).2 0 _ rfl;simpa[Addr.add]using World.cell?_spot this
 subst J;refine⟨(List.range len).map f,.inr ⟨b,O,m,by simp,λi o ho j u hu=>?_⟩,by simp;omega,λo ho=>?_⟩
 rotate_left
 ·grind
 rw[bw,nJ]at ho;obtain⟨i',G,rfl⟩:=ho
 have I:i'<len/\i=i':=by
  have:=(aJ.1 G).1;rw[List.getElem?_range (by simpa using this)]at G;simp at G this;omega
 obtain⟨I,rfl⟩:=I;have:=(Y i I).2 j u hu;rw[show O+i*14+j=O+(i*14+j)by omega];unfold Addr.add at this
 split at this<;>simp_all
def pO(a:As):List Value:=[.string a.act,.string a.cd,.string a.tm,.int .i64 a.x,.int .i64 a.y,.int .i64 a.z]
section
variable (w:World)
theorem xQ(e:Int):
 Calls prog 93 #[.int .i64 e] w λx w'=>x= .returned (.int .i64 e)/\w'=w:=by
 go_enter func93,ntmps93
 go_wp2;go_ret;exact⟨rfl,rfl⟩
end
theorem Om:∀(l:List Value) (k:Nat) (a:Array Value),k+l.length<=a.size->
 ((l.zipIdx k).foldl (λcs (p:Value×Nat)=>cs.setIfInBounds (0+p.2) p.1) a).toList=a.toList.take k++l++a.toList.drop (k+l.length):=by
 intro l
 induction l with
 |nil=>simp_all
 |cons x l D=>?_
 intro k a h;simp only[eh]at h;simp only[List.zipIdx_cons,List.foldl_cons];rw[D (k+1) _ (by simp;omega)]
 have hk:k<a.toList.length:=by simp;omega
 simp only[gw,Array.toList_setIfInBounds,eh];rw[List.take_set,List.drop_set_of_lt (by omega),show k+1+l.length=k+(l.length+1)by omega];rw[tq hk,List.set_append_right _ _ (by simp;omega)];simp[Nat.min_eq_left (Nat.le_of_lt (by simpa using hk))]
section
variable {P:Program}
theorem On{n:Nat}(base D:Array Value)(hb:base.size=n)(hs:D.size=n):Instr.fill (λi=>some (i*n,n)) base [(0,.agg D)]=some D:=by
 unfold Instr.fill;have e:(Value.agg D).cells=D:=rfl;simp only[e,hs,hb,Nat.zero_mul,gw,ne_eq,not_true_eq_false,decide_false,Nat.lt_irrefl,gt_iff_lt,Bool.or_self,bp,bj];unfold Instr.fill;have h:=Om D.toList 0 base (by simp[hs,hb]);simp only[List.take_zero,jG,gw]at h;rw[c_ (by simp[hs,hb]),i_]at h
 congr 1
 apply Array.toList_inj.1;rw[<-h];rw[<-Array.foldl_toList];simp
theorem oA(w:World)(t D:TypeId)(i:TypeInfo)(z:Value)(J:P.underlying t=some (.slice D))(hi:P.info? D=some i)(O:i.zero=some z)(X:0<i.size)(U:i.size<=1000)
 (E:Array Value) (hs:E.size=i.size):(Instr.buildSlice t 1 #[(0,.agg E)]).run P w= .ok (.slice (some ⟨w.heap.size,0,none⟩) 1 1) (w.alloc (.cells E D)):=by
 have F:¬(i.size=0):=by omega
 have G:¬(16777216<i.size):=by omega
 have I:=On ((Array.range i.size).map (λx=>z.cells[x % z.cells.size]!)) E (n:=i.size) (by simp) hs;unfold Instr.buildSlice;simp[run_underlying J,sizeOf,typeInfo,hi,F,G,zeroValue,O];rw[I];simp[newRow]
theorem eQ{o:Oper}{a:Act}{w:World}(t:TypeId)(x:Operand)(I:o.op= .buildSlice t 1 #[(0,x)])(D:TypeId)(i:TypeInfo)(z:Value)
 (J:P.underlying t=some (.slice D)) (hi:P.info? D=some i) (U:i.zero=some z) (G:0<i.size) (F:i.size<=1000) (E:Array Value) (O:a.eval x= .agg E) (hs:E.size=i.size):
 (execOp a.eval o).run P w= .ok (.value (.slice (some ⟨w.heap.size,0,none⟩) 1 1)) (w.alloc (.cells E D)):=by
 unfold execOp
 have e:(#[((0:Nat),x)].map λ(p:Nat×Operand)=>(p.1,a.eval p.2))= #[(0,.agg E)]:=by simp[O]
 simp only[I]
 have e2:(Instr.buildSlice t 1 (#[((0:Nat),x)].map λ(p:Nat×Operand)=>(p.1,a.eval p.2))).run P w= .ok (.slice (some ⟨w.heap.size,0,none⟩) 1 1) (w.alloc (.cells E D)):=by rw[e];exact oA w t D i z J hi U G F E hs
 simp_all
theorem lE{F:Array Oper}{rest:List Oper}{o:Oper}{a:Act}{w:World}{Q:Exit->Act->World->Prop}(G:o.guard=none)(t:TypeId)(x:Operand)(O:o.op= .buildSlice t 1 #[(0,x)])(D:TypeId)(i:TypeInfo)(z:Value)
 (U:P.underlying t=some (.slice D)) (hi:P.info? D=some i) (X:i.zero=some z) (J:0<i.size) (I:i.size<=1000) (E:Array Value) (Y:a.eval x= .agg E) (hs:E.size=i.size)
 (h:wpList P F Q rest (a.put o.dst (.slice (some ⟨w.heap.size,0,none⟩) 1 1)) (w.alloc (.cells E D))):wpList P F Q (o::rest) a w:=
 wpList_plain G λK hK=>by
  unfold Oper.wp execOp
  have e:(#[((0:Nat),x)].map λ(p:Nat×Operand)=>(p.1,a.eval p.2))= #[(0,.agg E)]:=by simp_all
  simp only[O]
  have e2:(Instr.buildSlice t 1 (#[((0:Nat),x)].map λ(p:Nat×Operand)=>(p.1,a.eval p.2))).run P w= .ok (.slice (some ⟨w.heap.size,0,none⟩) 1 1) (w.alloc (.cells E D)):=by rw[e];exact oA w t D i z U hi X J I E hs
  simp only[jD,e2,jE,k_];exact hK _ _ h
end
namespace Ch
structure Vr where
 num:Nat
 now:Sd
 pins:Nat
structure Tk where
 kind:Int
 events:ByteArray
 at_:Int
 drawn:Bool
 bR:Nat
 aw:Nat
 now:Sd
 out:ByteArray
 steps:Nat
 pinned:Int
structure Sv where
 made:Nat
 kept:List Vr
 joined:Nat
 tail:ByteArray
 ah:List Tk
 aU:Nat
 turn:Nat
def uf(made:Nat)(v:Vr):Bool:=decide (0<v.pins)||decide (made<=v.num+4)
def lx(made:Nat)(l:List Vr):List Vr:=l.filter (uf made)
end Ch
def rS(v:Vr):List Value:=.int .i64 v.num::(aY v.now++[.int .i64 v.pins])
def il(l:List Vr):List Value:=l.flatMap rS
theorem rj{v:Vr}(h:v.now.Wf):(rS v).length=38:=by simp[rS,cP h]
theorem rl(l:List Vr)(v:Vr):il (l++[v])=il l++rS v:=by simp[il]
theorem GY{l:List Vr}(h:∀v∈l,v.now.Wf){k:Nat}{v:Vr}(hk:l[k]? =some v){j:Nat}(D:j<38):(il l)[k*38+j]? =(rS v)[j]?:=by
 induction l generalizing k with
 |nil=>simp_all
 |cons x l E=>?_
 have e:il (x::l)=rS x++il l:=by simp[il]
 grind[rj]
theorem qx(s:Sd):∀u∈aY s,u.oneCell'=true:=by
 intro u hu;simp only[aY,cX,bZ,cB,ib,dP,hY,h_]at hu
 rcases hu with⟨b,_,rfl⟩|⟨c,_,rfl⟩|rfl|rfl|rfl|rfl<;>rfl
theorem Jr(v:Vr):∀u∈rS v,u.oneCell'=true:=by
 intro u hu
 rcases dP.1 hu with rfl|hu
 ·rfl
 rcases cB.1 hu with hu|hu
 ·grind[qx]
 simp at hu;subst hu;rfl
theorem Oo:(prog.info? 261).map (λi=>(i.zero,i.size,i.bytes))=some (some (.agg vX),38,88):=by kernel_rfl
structure uU(w:World)(B sb so:Nat)(C:Array Value)(T:TypeId)(made:Nat)(kept:List Vr)(kv:Value):Prop where
 bO:w.heap[sb]? =some (.cells C T (0,0))
 c0:C[so]? =some (.int .i64 made)
 c1:C[so+1]? =some kv
 row:w.ownsRow B 261 38 kv kept.length (il kept)
 wf:∀v∈kept,v.now.Wf
 ne:T≠261
section
variable {w w':World} {B sb so:Nat} {C:Array Value} {T:TypeId} {made:Nat} {kept:List Vr} {kv:Value}
theorem uU.x0(h:uU w B sb so C T made kept kv):w.cell? ⟨sb,so,none⟩=some (.int .i64 made):=by rw[World.cell?,h.bO];exact h.c0
theorem uU.x1(h:uU w B sb so C T made kept kv):w.cell? ⟨sb,so+1,none⟩=some kv:=by rw[World.cell?,h.bO];exact h.c1
theorem uU.free(h:uU w B sb so C T made kept kv)(i:Nat):w.frozen? ⟨sb,i,none⟩=false:=by simp[World.frozen?,h.bO]
theorem uU.Oq(h:uU w B sb so C T made kept kv):kv.ownBlock≠some sb:=aZ h.row h.bO h.ne.symm
theorem uU.au(h:uU w B sb so C T made kept kv)(k:Kp (λ_=>False) w w'):uU w' B sb so C T made kept kv:=
 ⟨k.at_ h.bO (λx=>x),h.c0,h.c1,k.owns h.row (λ_ _ x=>x),h.wf,h.ne⟩
theorem uU.cells(h:uU w B sb so C T made kept kv){g cap:Nat}(e:kv= .slice (some ⟨g,0,none⟩) kept.length cap){k:Nat}{v:Vr}(hk:kept[k]? =some v):∀j u,(rS v)[j]? =some u->w.cell? ⟨g,k*38+j,none⟩=some u:=by
 intro j u F;have I:=h.wf v (aM hk);have D:=(aJ.1 F).1;rw[rj I]at D;have G:=(aJ.1 hk).1;have E:=h.row;rw[e]at E;rw[E.cellAt _ (by omega),GY h.wf hk D];omega
theorem uU.rowAt(h:uU w B sb so C T made kept kv)(D:0<kept.length):∃g cap,kv= .slice (some ⟨g,0,none⟩) kept.length cap:=by
 rcases h.row.2 with⟨_,e2⟩|⟨g,cap,_,e1,_⟩
 ·omega
 simp_all
end
theorem tI(b j:Nat):(⟨b,0,none⟩:Addr).add j=⟨b,j,none⟩:=by
 unfold Addr.add;split<;>simp_all
theorem jf{w:World}{b:Nat}{L:List Value}{T:TypeId}(h:w.heap[b]? =some (.cells L.toArray T (0,0)))(j:Nat):w.cell? ⟨b,j,none⟩=L[j]?:=by
 rw[World.cell?,h];simp
theorem vp(v:Vr):(rS v)[0]? =some (.int .i64 v.num):=rfl
theorem yx{v:Vr}(h:v.now.Wf):(rS v)[37]? =some (.int .i64 v.pins):=by
 grind[rS,cP]
theorem Ot{w:World}{B E:Nat}(hb:B<=E){e:TypeId}{size:Nat}{v:Value}{n:Nat}{xs:List Value}(h:w.ownsRow E e size v n xs):w.ownsRow B e size v n xs:=by
 refine⟨h.1,?_⟩
 rcases h.2 with x|⟨g,cap,D,e1,e2,r⟩
 ·simp_all
 exact .inr ⟨g,cap,D,e1,by omega,r⟩
theorem Ou:(prog.info? 261).map (·.size)=some 38:=by kernel_rfl
theorem W8:∃d,prog.underlying 261=some d/\dU d=true:=⟨_,underlying261,rfl⟩
def W9(w w':World)(B sb so:Nat)(C:Array Value)(T:TypeId)(l:List Vr):Prop:=
 ∃D,w'.heap[sb]? =some (.cells (C.setIfInBounds (so+1) D) T (0,0))/\w'.ownsRow B 261 38 D l.length (il l)/\(∀k,D.ownBlock=some k->w.heap.size<=k)/\Kp (λk=>k=sb) w w'
section
variable (w:World) {B sb so:Nat} {C:Array Value} {T:TypeId} {made:Nat} {kept:List Vr} {kv:Value}
theorem DQ(h:uU w B sb so C T made kept kv)(hB:B<=w.heap.size)(hk:kept.length<=100000)(hm:made<=1000000000000000)(hn:∀v∈kept,v.num<=1000000000000000/\v.pins<=1000000000000000):
 Calls prog 226 #[.pointer (some ⟨sb,so,none⟩)] w λx w'=>x= .returned (.tuple #[])/\W9 w w' B sb so C T (lx made kept):=by
 obtain⟨i0,hi,E,F,G⟩:=bY Oo;obtain⟨dv,ad,xC⟩:=W8;have HH:=af h;have HN:=af hn;clear h hn
 go_enter func226,ntmps226
 go_wp2_with fail
 go_loopw [2,3] (λlv iv wr=>∃i:Nat,iv= .int .i64 i/\i<=kept.length/\wr.ownsRow w.heap.size 261 38 lv (lx made (kept.take i)).length (il (lx made (kept.take i)))/\Kp (λ_=>False) w wr) (λ_ iv _=>kept.length-(intOf iv).toNat)
 case atStart=>exact⟨0,rfl,aG _,bT _ _ _ _,Kp.refl _ _⟩
 case round=>
  obtain⟨i,rfl,a3,ho,KW⟩:=hrel;have O:=HH.out.au KW;have x0:=O.x0;have x1:=O.x1;obtain⟨ao,cap,r8⟩:=bn O.row
  by_cases a4:i<kept.length
  ·have aS:(i:Int)<(kept.length:Int):=by omega
   obtain⟨g,a5,GZ⟩:=O.rowAt (by omega)
   obtain⟨v,hv⟩:∃v,kept[i]? =some v:=⟨_,ar a4⟩
   have aI:=O.cells GZ hv;have am:=HH.out.wf v (aM hv);have D:=rj am;have Ov:=Jr v;obtain⟨a9,ba⟩:=HN.out v (aM hv)
   have aj:kept.take (i+1)=kept.take i++[v]:=by
    obtain⟨h1,e⟩:=aJ.1 hv;rw[<-e,List.take_append_getElem h1]
   rw[GZ]at x1;have Z:=an wr (.cells vX 261);have h5:=ax (wr.alloc (.cells vX 261)) wr.heap.size vX (rS v).toArray 261 (0,0) Z;have K5:Kp (λ_=>False) wr ((wr.alloc (.cells vX 261)).setRow wr.heap.size (rS v).toArray):=((Kp.refl _ _).alloc _).setRow (λx=>by omega) _
   have hI:(prog.info? 261).map (·.size)=some (rS v).length:=by rw[D];exact Ou
   have Lf:(rS v).toArray.size=38:=by simp[D]
   have Rv:(prog.info? 261).map (·.size)=some (rS v).toArray.size:=by rw[Lf];exact Ou
   have UQ:(rS v).toArray.all (λx=>x.oneCell')=true:=by
    apply gN.2;intro u hu;exact Ov u (by simpa using hu)
   go_upto_region 5 with(first|refine cH rfl 261 (.tmp 19) rfl g (i*38) rfl (rS v) dv aI ad xC hI ?_|refine cj (rS v).toArray Z Rv (by rw[Lf];rfl) UQ ?_)
   have a1:=O.au K5;have ri:=K5.owns ho (λ_ _ x=>x);have K6:=KW.trans K5;have bb:=KW.size;generalize (wr.alloc (.cells vX 261)).setRow wr.heap.size (rS v).toArray=J at*;generalize wr.heap.size=vb at*;have b0:=(jf h5 0).trans (vp v);have a7:=(jf h5 37).trans (yx am);have y0:=a1.x0;generalize W_:(rS v).toArray=VA at*;have Y_:=af W_;clear W_;have HX:=af (ae ri (ae K6 h5));have HZ:=af (ae hi (ae E (ae F G)));have HV:=af (ae Lf (ae Rv (ae UQ (ae D Ov))));clear hi E F G Lf Rv UQ D Ov hI am
   have HL:∀(I:uf made v=true),lx made (kept.take (i+1))=lx made (kept.take i)++[v]:=by
    intro I;rw[aj];unfold lx;rw[ic];simp[I]
   have ap:∀(I:uf made v=false),lx made (kept.take (i+1))=lx made (kept.take i):=by
    intro I;rw[aj];unfold lx;rw[ic];simp[I]
   have Za:=af (ae HL ap);clear Z K5 aI ho ri K6 KW O a1 aj HL ap h5 x0 x1
   have a6:(lx made (kept.take i)).length<=100000:=by
    unfold lx;exact bA (l8 _ _) (by simp;omega)
   clear r8 GZ a3
   cases I:uf made v with
   |true=>
    have HE:=af (Za.out.1 I)
    have Y:0<v.pins\/(¬ 0<v.pins/\made<=v.num+4):=by
     unfold uf at I;simp at I;omega
    clear Za I
    by_cases hp:0<v.pins
    ·have a0:(0:Int)<(v.pins:Int):=by omega
     simp only[Act.put]
     go_quiet (fail)
     rename_i nq;have KD:=(Kp.refl (λ_=>False) J).drewN nq;have KA:=KD.alloc (.cells VA 261);have U:=KD.at_ HX.out.2.2 (λx=>x);have Aq:=KA.owns HX.out.1 (λ_ _ x=>x);have pP:=an (J.drewN nq) (.cells VA 261)
     have X:∀j u,(rS v)[j]? =some u->((J.drewN nq).alloc (.cells VA 261)).cell? ((⟨(J.drewN nq).heap.size,0,none⟩:Addr).add j)=some u:=by
      intro j u hj;have e:(⟨(J.drewN nq).heap.size,0,none⟩:Addr).add j=_:=tI _ _;rw[e,World.cell?,pP];show VA[j]? =some u;rw[<-Y_.out,gf];exact hj
     have K7:=HX.out.2.1.trans KA;have aa:=K7.size;obtain⟨hi,E,F,G⟩:=HZ.out;obtain⟨Lf,Rv,UQ,D,Ov⟩:=HV.out
     go_wp2_with (first|(at_builtin;refine hJ _ rfl (.tmp 34) (.tmp 36) 129 rfl w.heap.size 261 i0 (.agg vX) 38 88 underlying129 hi E F G rfl (by decide) _ _ _ rfl Aq ⟨(J.drewN nq).heap.size,0,none⟩ 1 1 (rS v) rfl (by rw[D]) X Ov ?c3 ?c4 ?c5 ?_)|refine lE rfl 129 (.tmp 35) rfl 261 i0 (.agg vX) underlying129 hi E (by omega) (by omega) VA rfl (by rw[Lf,F]) ?_|refine jO U ad xC Rv ?_)
     case c3=>unfold maxLen;omega
     case c4=>omega
     case c5=>simpa using aa
     intro v8 w8 o8 g8 _;have K8:=K7.grown g8 (λk hk hl=>by have:=(Aq.lt k hk).1;omega);have HF:=af (ae o8 K8);clear o8 g8 K8 K7 aa X pP Aq KA KD U hi E F G Lf Rv UQ D Ov;go_wp2
     go_roundw
     case rel=>
      refine⟨i+1,by go_num,by omega,?_,HF.out.2⟩;rw[HE.out,rl];simpa using HF.out.1
     case measure=>simp[intOf];omega
    have a2:made<=v.num+4:=by omega
    have a0:¬(0:Int)<(v.pins:Int):=by omega
    have aO:(made:Int)-4<=(v.num:Int):=by omega
    simp only[Act.put]
    go_quiet (fail)
    rename_i nq;have KD:=(Kp.refl (λ_=>False) J).drewN nq;have KA:=KD.alloc (.cells VA 261);have U:=KD.at_ HX.out.2.2 (λx=>x);have Aq:=KA.owns HX.out.1 (λ_ _ x=>x);have pP:=an (J.drewN nq) (.cells VA 261)
    have X:∀j u,(rS v)[j]? =some u->((J.drewN nq).alloc (.cells VA 261)).cell? ((⟨(J.drewN nq).heap.size,0,none⟩:Addr).add j)=some u:=by
     intro j u hj;have e:(⟨(J.drewN nq).heap.size,0,none⟩:Addr).add j=_:=tI _ _;rw[e,World.cell?,pP];show VA[j]? =some u;rw[<-Y_.out,gf];exact hj
    have K7:=HX.out.2.1.trans KA;have aa:=K7.size;obtain⟨hi,E,F,G⟩:=HZ.out;obtain⟨Lf,Rv,UQ,D,Ov⟩:=HV.out
    go_wp2_with (first|(at_builtin;refine hJ _ rfl (.tmp 34) (.tmp 36) 129 rfl w.heap.size 261 i0 (.agg vX) 38 88 underlying129 hi E F G rfl (by decide) _ _ _ rfl Aq ⟨(J.drewN nq).heap.size,0,none⟩ 1 1 (rS v) rfl (by rw[D]) X Ov ?c3 ?c4 ?c5 ?_)|refine lE rfl 129 (.tmp 35) rfl 261 i0 (.agg vX) underlying129 hi E (by omega) (by omega) VA rfl (by rw[Lf,F]) ?_|refine jO U ad xC Rv ?_)
    case c3=>unfold maxLen;omega
    case c4=>omega
    case c5=>simpa using aa
    intro v8 w8 o8 g8 _;have K8:=K7.grown g8 (λk hk hl=>by have:=(Aq.lt k hk).1;omega);have HF:=af (ae o8 K8);clear o8 g8 K8 K7 aa X pP Aq KA KD U hi E F G Lf Rv UQ D Ov;go_wp2
    go_roundw
    case rel=>
     refine⟨i+1,by go_num,by omega,?_,HF.out.2⟩;rw[HE.out,rl];simpa using HF.out.1
    case measure=>simp[intOf];omega
   |false=>?_
   have HE:=af (Za.out.2 I)
   have Y:¬ 0<v.pins/\¬made<=v.num+4:=by
    unfold uf at I;simp at I;omega
   obtain⟨hp,a2⟩:=Y
   have a0:¬(0:Int)<(v.pins:Int):=by omega
   have aO:¬(made:Int)-4<=(v.num:Int):=by omega
   clear Za I;simp only[Act.put]
   go_quiet (fail)
   rename_i nq;have HD:=af (ae ((Kp.refl (λ_=>False) J).drewN nq |>.owns HX.out.1 (λ_ _ x=>x)) (HX.out.2.1.drewN nq));go_wp2
   go_roundw
   case rel=>exact⟨i+1,by go_num,by omega,by rw[HE.out];exact HD.out.1,HD.out.2⟩
   case measure=>simp[intOf];omega
  have aS:¬(i:Int)<(kept.length:Int):=by omega
  obtain rfl:i=kept.length:=by omega
  rw[fD]at ho;obtain⟨Nu,m2,yy,rfl⟩:=gL ho;have hf:=O.free (so+1);have a8:=(aJ.1 (show C.toList[so+1]? =some kv by simpa using HH.out.c1)).1;have KS:Kp _ _ (wr.setCell ⟨sb,so+1,none⟩ (.slice Nu m2 yy)):=(Kp.refl (λk=>k=sb) wr).setCell (p:=⟨sb,so+1,none⟩) (λ_=>rfl) _;have TD:(wr.setCell ⟨sb,so+1,none⟩ (.slice Nu m2 yy)).heap[sb]? =_:=ak _ O.bO;have Ow:=aZ ho O.bO O.ne.symm;have Qx:=KS.owns ho (λk e x=>Ow (by rw[<-x];exact e))
  have Xa:=λk e=>(ho.lt k e).1
  have K9:=(KW.mono (λ_ _ x=>x.elim)).trans' KS (λi _ x=>x);have HF:=af (ae TD (ae (Ot hB Qx) (ae Xa K9)));clear TD Qx Xa K9 KS Ow ho O KW;go_wp2
  go_end0
  exact⟨rfl,_,HF.out.1,HF.out.2.1,HF.out.2.2.1,HF.out.2.2.2⟩
end
theorem Cs(m:Int)(a0 a1 a2 a3 a4 a5 a6 a7 a8 a9 U X D Y Z Nq:Bool)(p0 p1 p2 p3 p4 p5 p6 p7 p8 p9 E F G I J O:Int)(tm:ByteArray)(x y z:Int):
 prog.built 261 [(0,.int .i64 m),(1,.agg #[.bool a0,.bool a1,.bool a2,.bool a3,.bool a4,.bool a5,.bool a6,.bool a7,.bool a8,.bool a9,.bool U,.bool X,.bool D,.bool Y,.bool Z,.bool Nq,.int .u8 p0,.int .u8 p1,.int .u8 p2,.int .u8 p3,.int .u8 p4,.int .u8 p5,.int .u8 p6,.int .u8 p7,.int .u8 p8,.int .u8 p9,.int .u8 E,.int .u8 F,.int .u8 G,.int .u8 I,.int .u8 J,.int .u8 O,.string tm,.int .i64 x,.int .i64 y,.int .i64 z])]=some #[.int .i64 m,.bool a0,.bool a1,.bool a2,.bool a3,.bool a4,.bool a5,.bool a6,.bool a7,.bool a8,.bool a9,.bool U,.bool X,.bool D,.bool Y,.bool Z,.bool Nq,.int .u8 p0,.int .u8 p1,.int .u8 p2,.int .u8 p3,.int .u8 p4,.int .u8 p5,.int .u8 p6,.int .u8 p7,.int .u8 p8,.int .u8 p9,.int .u8 E,.int .u8 F,.int .u8 G,.int .u8 I,.int .u8 J,.int .u8 O,.string tm,.int .i64 x,.int .i64 y,.int .i64 z,.int .i64 0]:=by kernel_rfl
theorem Ox(m:Nat)(s:Sd)(hw:s.Wf):prog.built 261 [(0,.int .i64 m),(1,.agg (aY s).toArray)]=some (rS ⟨m,s,0⟩).toArray:=by
 obtain⟨act,cd,tm,x,y,z⟩:=s;obtain⟨E,F⟩:=hw;simp only at E F;obtain⟨a0,a1,a2,a3,a4,a5,a6,a7,a8,a9,Y,Z,D,No,Np,Nq,rfl⟩:=ym act E;obtain⟨p0,p1,p2,p3,p4,p5,p6,p7,p8,p9,G,I,J,O,U,X,rfl⟩:=ym cd F;exact Cs m a0 a1 a2 a3 a4 a5 a6 a7 a8 a9 Y Z D No Np Nq p0 p1 p2 p3 p4 p5 p6 p7 p8 p9 G I J O U X tm x y z
theorem DR{v:Vr}(h:v.now.Wf):(rS v).toArray.size=38:=by simp[rj h]
section
variable (w:World) {B sb so:Nat} {C:Array Value} {T:TypeId} {made:Nat} {kept:List Vr} {kv:Value}
theorem lS(h:uU w B sb so C T made kept kv)(D:made<=1000000000000000):
 Calls prog 191 #[.pointer (some ⟨sb,so,none⟩)] w λx w'=>x= .returned (.int .i64 ((made:Int)-1))/\w'=w:=by
 have x0:=h.x0;clear h
 go_enter func191,ntmps191
 go_wp2;go_ret;exact⟨rfl,rfl⟩
def aah(w w':World)(B sb so:Nat)(C:Array Value)(T:TypeId)(made:Nat)(kv:Value)(l:List Vr):Prop:=
 ∃D,w'.heap[sb]? =some (.cells ((C.setIfInBounds so (.int .i64 ((made+1:Nat):Int))).setIfInBounds (so+1) D) T (0,0))/\w'.ownsRow B 261 38 D l.length (il l)/\(∀k,D.ownBlock=some k->w.heap.size<=k)/\Kp (λk=>k=sb\/kv.ownBlock=some k) w w'
theorem Lg(h:uU w B sb so C T made kept kv)(hB:B<=w.heap.size)(hk:kept.length<=1000)(bo:made<=100000000000000)(hn:∀v∈kept,v.num<=1000000000000000/\v.pins<=1000000000000000)(a7:T≠95)(s:Sd)(hs:s.Wf):
 Calls prog 184 #[.pointer (some ⟨sb,so,none⟩),.agg (aY s).toArray] w λx w'=>x= .returned (.tuple #[])/\aah w w' B sb so C T made kv (lx (made+1) (kept++[⟨made,s,0⟩])):=by
 obtain⟨i0,hi,ad,aj,bk⟩:=bY Oo;obtain⟨ds,a9,kJ⟩:=iM;have aS:=an w (.cells (aY s).toArray 95);have K1:Kp (λ_=>False) w (w.alloc (.cells (aY s).toArray 95)):=(Kp.refl _ _).alloc _;have G:=h.au K1
 have bc:(prog.info? 95).map (·.size)=some (aY s).toArray.size:=by rw[show(aY s).toArray.size=36 by simp[cP hs]];exact fR
 have a8:=Ox made s hs;have a0:(⟨made,s,0⟩:Vr).now.Wf:=hs;have Lf:=DR a0;have bi:=rj a0;have Ov:=Jr ⟨made,s,0⟩;have HH:=af (ae h hn);clear h hn;obtain⟨ao,mm,cap,rfl⟩:=gL G.row;generalize Ao:(aY s).toArray=Y at*;generalize W_:(rS ⟨made,s,0⟩).toArray=I at*;have Y_:=af W_;clear W_ Ao
 go_enter func184,ntmps184
 go_upto_region 1 with(fail)
 have bm:=K1.size;have a2:=af K1;generalize w.alloc (.cells Y 95)=F at*;have x0:F.drew.cell? _=_:=G.x0;have x1:F.drew.cell? _=_:=G.x1
 have E:F.drew.cell? ⟨sb,so,none⟩=some (.int .i64 made)/\F.drew.heap[w.heap.size]? =some (.cells Y 95 (0,0)):=⟨x0,aS⟩
 refine bf (λw'=>w'.cell? ⟨sb,so,none⟩=some (.int .i64 made)/\w'.heap[w.heap.size]? =some (.cells Y 95 (0,0))) (by kernel_rfl) ?_;refine bM 0 4 (.pointer (some ⟨sb,so,none⟩)) E ?_;refine bM 1 5 (.pointer (some ⟨sb,so,none⟩)) E ?_;refine bM 2 6 (.pointer (some ⟨sb,so,none⟩)) E ?_;refine bM 3 7 (.pointer (some ⟨sb,so+1,none⟩)) E ?_;refine bM 5 9 (.pointer (some ⟨sb,so,none⟩)) E ?_;refine bM 6 10 (.pointer (some ⟨sb,so,none⟩)) E ?_;refine bM 7 11 (.pointer (some ⟨sb,so,none⟩)) E ?_;refine eG 8 12 (.int .i64 made) rfl (λw' hS=>by simp[execOp,Act.eval,go_sem,hS.1]) E ?_;refine eG 9 13 (.agg Y) rfl (λw' hS=>du 95 (.tmp 3) rfl w.heap.size rfl 95 Y (0,0) ds hS.2 a9 kJ bc) E ?_;refine eG 10 14 (.agg I) rfl (λw' _=>fA 261 #[(0,.tmp 12),(1,.tmp 13)] rfl I [(0,.int .i64 made),(1,.agg Y)] rfl a8) E ?_;have KA:Kp (λ_=>False) _ (F.drew.alloc (.cells I 261)):=(Kp.refl _ _).alloc _;have O:=KA.at_ G.bO (λx=>x);have U:=KA.at_ aS (λx=>x)
 have y0:(F.drew.alloc (.cells I 261)).cell? ⟨sb,so,none⟩=some (.int .i64 made):=by rw[World.cell?,O];exact G.c0
 have y1:(F.drew.alloc (.cells I 261)).cell? ⟨sb,so+1,none⟩=some (.slice ao mm cap):=by rw[World.cell?,O];exact G.c1
 have a1:(F.alloc (.cells I 261)).drew.cell? _=_:=y1
 refine Be 4 11 8 15 (.slice ao mm cap) (.slice (some ⟨F.drew.heap.size,0,none⟩) 1 1) (F.drew.alloc (.cells I 261)) (by decide) (by kernel_rfl) (by kernel_rfl) (by kernel_rfl) rfl rfl rfl rfl rfl rfl (by simp[execOp,Act.eval,go_sem,x1])
  (eQ 129 (.tmp 14) rfl 261 i0 (.agg vX) underlying129 hi ad (by omega) (by omega) I rfl (by rw[Lf,aj]))
  (eQ 129 (.tmp 14) rfl 261 i0 (.agg vX) underlying129 hi ad (by omega) (by omega) I rfl (by rw[Lf,aj]))
  (by simp[execOp,Act.eval,go_sem,a1]) E ⟨y0,U⟩ ?_
 simp only[Act.put,pA,pB,pC];have Aq:=KA.owns (show F.drew.ownsRow B 261 38 (.slice ao mm cap) kept.length (il kept)from G.row) (λ_ _ x=>x);have pP:=an F.drew (.cells I 261)
 have aO:∀j u,(rS ⟨made,s,0⟩)[j]? =some u->(F.drew.alloc (.cells I 261)).cell? ((⟨F.drew.heap.size,0,none⟩:Addr).add j)=some u:=by
  intro j u hj;rw[tI,World.cell?,pP];show I[j]? =some u;rw[<-Y_.out,gf];exact hj
 have bb:B<=(F.drew.alloc (.cells I 261)).heap.size:=by have:=KA.size;have e:F.drew.heap.size=F.heap.size:=rfl;omega
 refine oX 12 ?_;refine wp_append_own _ (.tmp 8) (.tmp 15) 129 rfl B 261 i0 (.agg vX) 38 88 underlying129 hi ad aj bk rfl (by decide) _ _ _ rfl Aq ⟨F.drew.heap.size,0,none⟩ 1 1 (rS ⟨made,s,0⟩) rfl (by rw[bi]) aO Ov ?c3 ?c4 ?c5 ?_
 case c3=>unfold maxLen;omega
 case c4=>omega
 case c5=>exact bb
 intro v8 w8 o8 g8 _;have ba:=aZ Aq O G.ne.symm;have a3:=aZ Aq U (by decide);have KG:Kp (λk=>(Value.slice ao mm cap).ownBlock=some k) _ _:=(Kp.refl _ _).grown g8 (λk hk _=>hk);have xR:=KG.at_ O ba
 have UR:w8.cell? ⟨sb,so,none⟩=some (.int .i64 made)/\w8.heap[w.heap.size]? =some (.cells Y 95 (0,0)):=⟨by rw[World.cell?,xR];exact G.c0,KG.at_ U a3⟩
 refine⟨UR,?_⟩;refine kE 13 17 (.pointer (some ⟨sb,so,none⟩)) rfl (λw' _=>by simp[execOp,Act.eval,go_sem,Act.put]) UR ?_;refine kE 14 18 (.pointer (some ⟨sb,so+1,none⟩)) rfl (λw' _=>by simp[execOp,Act.eval,go_sem,Act.put]) UR ?_;obtain⟨X,Z,D,rfl⟩:=gL o8
 have Xb:w8.cell? ⟨sb,so+1,none⟩=some (.slice ao mm cap):=by rw[World.cell?,xR];exact G.c1
 have TE:w8.frozen? ⟨sb,so+1,none⟩=false:=by simp[World.frozen?,xR]
 have a4:sb≠w.heap.size:=by intro e;rw[e,UR.2]at xR;simp only[bq,dI]at xR;exact a7 xR.2.1.symm
 have KS:Kp _ _ (w8.setCell ⟨sb,so+1,none⟩ (.slice X Z D)):=(Kp.refl (λk=>k=sb) w8).setCell (p:=⟨sb,so+1,none⟩) (λ_=>rfl) _;have TD:(w8.setCell ⟨sb,so+1,none⟩ (.slice X Z D)).heap[sb]? =_:=ak _ xR
 have be:so+1<C.size:=by
  have:=G.c1;exact(Array.getElem?_eq_some_iff.1 this).1
 have am:(C.setIfInBounds (so+1) (.slice X Z D))[so]? =some (.int .i64 made):=by rw[nK (by omega)];exact G.c0
 have G0:(w8.setCell ⟨sb,so+1,none⟩ (.slice X Z D)).cell? ⟨sb,so,none⟩=some (.int .i64 made)/\(w8.setCell ⟨sb,so+1,none⟩ (.slice X Z D)).heap[w.heap.size]? =some (.cells Y 95 (0,0)):=⟨by rw[World.cell?,TD];exact am,KS.at_ UR.2 a4.symm⟩
 refine oX 15 ?_;unfold Oper.wp;simp only[execOp,Act.eval,Act.put];simp[go_sem,Xb,TE];refine⟨⟨UR.1,G0.2⟩,?_⟩;refine bF (by kernel_rfl) (bG ?_) _;have K8:Kp (λk=>k=sb\/(Value.slice ao mm cap).ownBlock=some k) w w8:=(((a2.out.drew).trans KA).mono (λ_ _ x=>x.elim)).trans' KG (λi _ x=>.inr x);have K9:=K8.trans' KS (λi _ x=>.inl x);have Ow:=aZ o8 xR G.ne.symm;have Qx:=KS.owns o8 (λk e x=>Ow (by rw[<-x];exact e));generalize aa:C.setIfInBounds (so+1) (.slice X Z D)=C9 at*;generalize w8.setCell ⟨sb,so+1,none⟩ (.slice X Z D)=w9 at*;have z0:=G0.1
 have zf:w9.frozen? ⟨sb,so,none⟩=false:=by simp[World.frozen?,TD]
 have KT:Kp _ _ (w9.setCell ⟨sb,so,none⟩ (.int .i64 ((made:Int)+1))):=(Kp.refl (λk=>k=sb) w9).setCell (p:=⟨sb,so,none⟩) (λ_=>rfl) _;have Xc:(w9.setCell ⟨sb,so,none⟩ (.int .i64 ((made:Int)+1))).heap[sb]? =_:=ak _ TD;have TF:=aZ Qx TD G.ne.symm;have Xd:=KT.owns Qx (λk e x=>TF (by rw[<-x];exact e));have Ge:=K9.trans' KT (λi _ x=>.inl x)
 have ap:((made+1:Nat):Int)=(made:Int)+1:=by omega
 have a5:C9.size=C.size:=by rw[<-aa];simp
 have aI:uU (w9.setCell ⟨sb,so,none⟩ (.int .i64 ((made:Int)+1))) B sb so (C9.setIfInBounds so (.int .i64 ((made:Int)+1))) T (made+1) (kept++[⟨made,s,0⟩]) (.slice X Z D):=by
  refine⟨Xc,?_,?_,?_,?_,G.ne⟩
  ·rw[pS (by omega),ap]
  ·rw[nK (by omega),<-aa,pS be]
  ·rw[rl];simpa using Xd
  intro v J
  rcases cB.1 J with J|J
  ·exact G.wf v J
  simp at J;subst J;exact hs
 have a6:B<=(w9.setCell ⟨sb,so,none⟩ (.int .i64 ((made:Int)+1))).heap.size:=by have:=Ge.size;omega
 have ET:=af (DQ _ aI a6 (by simp;omega) (by omega) (by
  intro v J
  rcases cB.1 J with J|J
  ·exact HH.out.2 v J
  simp at J;subst J;simp;omega))
 have HK:=af (ae Ge (ae aa a5));clear K8 K9 Ow Qx KS KT Xc TF Xd Ge aI G0 UR KG o8 g8 aO pP Aq O U y0 y1 a1 Xb TE x0 x1 E KA G TD am
 go_wp2_with fail
 refine hm ET ?_;rintro x Zb ⟨rfl,oB,q1,q2,q3,q4⟩;have HF:=af (ae q1 (ae q2 (ae q3 q4)));clear ET q1 q2 q3 q4;go_wp2
 go_end0
 obtain⟨q1,q2,q3,q4⟩:=HF.out;refine⟨rfl,oB,?_,q2,λk e=>bA (by have:=HK.out.1.size;omega) (q3 k e),HK.out.1.trans' q4 (λi _ x=>.inl x)⟩;rw[q1,<-HK.out.2.1,ap]
 congr 2
 apply Array.ext_getElem?;intro j;simp only[Array.getElem?_setIfInBounds,Array.size_setIfInBounds]
 by_cases e1:so+1=j
 ·simp[e1]
 by_cases e2:so=j
 ·simp[e2]
 simp[e1,e2]
end
namespace Ch
structure Wk where
 mode:Int
 open_:List Int
 close:Int
def mC(b lo hi:Int):Bool:=decide (lo<=b)&&decide (b<=hi)
def fK(ok:Bool)(next:Int):Int:=if ok then next else-1
def fj(w:Wk)(b:Int):Int×Wk:=
 if b==40 then(1,{w with open_:=w.open_++[41]})
 else if b==91 then(1,{w with open_:=w.open_++[93]})
 else if b==60 then(2,w)
 else if b==42 then(4,w)
 else if b==58 then(6,w)
 else if b==94||b==36 then(11,{w with close:=59})
 else match w.open_.getLast? with
  |none=>(-1,w)
  |some c=>if b !=c then(-1,w)else(if w.open_.length==1 then 18 else 5,{w with open_:=w.open_.dropLast})
def xD(w:Wk)(b:Int):Int:=
 if b==33||b==126||b==35 then 12
 else if b==64 then 13
 else if b==43||b==45||b==61 then 15
 else if b !=w.close then-1
 else if b==62 then 17
 else 5
def bH(w:Wk)(b:Int):Int×Wk:=
 if w.mode==0 then(if b !=40&&b !=91 then(-1,w)else fj w b)
 else if w.mode==1||w.mode==4 then(fK (mC b 65 90) 5,w)
 else if w.mode==2 then(fK (mC b 65 90) 3,w)
 else if w.mode==3 then(fK (b==62) 5,w)
 else if w.mode==5 then fj w b
 else if w.mode==6 then(fK (mC b 97 122||mC b 65 90||b==46) 7,{w with close:=62})
 else if w.mode==7 then(if b==63 then 8 else xD w b,w)
 else if w.mode==8 then(fK (mC b 120 122) 9,w)
 else if w.mode==9 then(fK (b==60||b==61||b==62) 10,w)
 else if w.mode==10||w.mode==16 then(fK (mC b 48 57) 11,w)
 else if w.mode==11 then(xD w b,w)
 else if w.mode==12 then(fK (mC b 97 122) 11,w)
 else if w.mode==13 then(fK (mC b 97 122) 14,w)
 else if w.mode==14 then(fK (mC b 48 57&&b !=48) 11,w)
 else if w.mode==15 then(fK (mC b 120 122) 16,w)
 else if w.mode==17 then(fK (mC b 65 90||b==45) 5,w)
 else(-1,w)
def j2(t:ByteArray):Nat->Nat->Wk->Int
 |0,_,w=>if w.mode !=18 then t.size else-1
 |f+1,i,w=>if(bH w (ag t i)).1== -1 then i else j2 t f (i+1) {(bH w (ag t i)).2 with mode:=(bH w (ag t i)).1}
def yz(t:ByteArray):Int:=j2 t t.size 0 ⟨0,[],0⟩
def fN(t:ByteArray)(i:Nat)(w:Wk):Int:=j2 t (t.size-i) i w
theorem yA{t:ByteArray}{i:Nat}{w:Wk}(h:t.size<=i):fN t i w=if w.mode !=18 then(t.size:Int)else-1:=by
 unfold fN;rw[show t.size-i=0 by omega];rfl
theorem tJ{t:ByteArray}{i:Nat}{w:Wk}(h:i<t.size):
 fN t i w=if(bH w (ag t i)).1== -1 then(i:Int)else fN t (i+1) {(bH w (ag t i)).2 with mode:=(bH w (ag t i)).1}:=by
 unfold fN;rw[show t.size-i=(t.size-(i+1))+1 by omega];rfl
theorem sP{t:ByteArray}{i:Nat}{w:Wk}(h:i<=t.size)(hm:w.mode≠18)(D:(bH w (ag t i)).1= -1):fN t i w=i:=by
 grind[tJ,yA,hm]
theorem js{t:ByteArray}{i:Nat}{w w':Wk}{m:Int}(h:i<t.size)(D:bH w (ag t i)=(m,w'))(hm:m≠ -1):fN t i w=fN t (i+1) {w' with mode:=m}:=by
 rw[tJ h,D];simp[hm]
theorem DS(c:Int):mC c 120 122=jw c:=by
 grind[jw,mC]
theorem G1(c:Int):(mC c 48 57&&c !=48)=iw 49 c:=by
 grind[iw,mC]
section
variable {t:ByteArray} {p:Nat} {o:List Int} {c:Int}
theorem gM{m n:Int}{ok:Bool}(hm:m≠18)(D:n≠ -1)(E:p<=t.size)(eD:ok=true->p<t.size)(h:bH ⟨m,o,c⟩ (ag t p)=(fK ok n,⟨m,o,c⟩)):
 fN t p ⟨m,o,c⟩=if ok then fN t (p+1) ⟨n,o,c⟩else p:=by
 cases q:ok with
 |true=>rw[js (eD q) h (by simp[q,fK,D])];grind[fK]
 |false=>grind[sP,hm,fK]
theorem Js{m n:Int}(D:n≠ -1)(hm:m=12/\n=11\/m=13/\n=14)(E:p<=t.size):
 fN t p ⟨m,o,c⟩=if ez (ag t p)then fN t (p+1) ⟨n,o,c⟩else p:=by
 rcases hm with⟨rfl,rfl⟩|⟨rfl,rfl⟩
 ·exact gM (ok:=ez (ag t p)) (by decide) D E qQ (by simp[bH,ez,mC])
 exact gM (ok:=ez (ag t p)) (by decide) D E qQ (by simp[bH,ez,mC])
theorem Jt{m n:Int}(D:n≠ -1)(hm:m=8/\n=9\/m=15/\n=16)(E:p<=t.size):
 fN t p ⟨m,o,c⟩=if jw (ag t p)then fN t (p+1) ⟨n,o,c⟩else p:=by
 rcases hm with⟨rfl,rfl⟩|⟨rfl,rfl⟩
 ·exact gM (ok:=jw (ag t p)) (by decide) D E lN (by simp[bH,DS])
 exact gM (ok:=jw (ag t p)) (by decide) D E lN (by simp[bH,DS])
theorem Ju{m:Int}(hm:m=10\/m=16)(D:p<=t.size):
 fN t p ⟨m,o,c⟩=if iw 48 (ag t p)then fN t (p+1) ⟨11,o,c⟩else p:=by
 rcases hm with rfl|rfl
 ·exact gM (ok:=iw 48 (ag t p)) (by decide) (by decide) D (nZ (by omega)) (by simp[bH,iw,mC])
 exact gM (ok:=iw 48 (ag t p)) (by decide) (by decide) D (nZ (by omega)) (by simp[bH,iw,mC])
theorem Rw(D:p<=t.size):
 fN t p ⟨14,o,c⟩=if iw 49 (ag t p)then fN t (p+1) ⟨11,o,c⟩else p:=
 gM (ok:=iw 49 (ag t p)) (by decide) (by decide) D (nZ (by omega)) (by simp[bH,<-G1])
theorem xS{m n:Int}(D:n≠ -1)(hm:m=1/\n=5\/m=4/\n=5\/m=2/\n=3)(E:p<=t.size):
 fN t p ⟨m,o,c⟩=if dS (ag t p)then fN t (p+1) ⟨n,o,c⟩else p:=by
 rcases hm with⟨rfl,rfl⟩|⟨rfl,rfl⟩|⟨rfl,rfl⟩
 ·exact gM (ok:=dS (ag t p)) (by decide) D E lO (by simp[bH,dS,mC])
 ·exact gM (ok:=dS (ag t p)) (by decide) D E lO (by simp[bH,dS,mC])
 exact gM (ok:=dS (ag t p)) (by decide) D E lO (by simp[bH,dS,mC])
theorem Oy(D:p<=t.size):fN t p ⟨3,o,c⟩=if ag t p==62 then fN t (p+1) ⟨5,o,c⟩else p:=
 gM (ok:=ag t p==62) (by decide) (by decide) D (dy (by decide)) (by simp[bH])
theorem yB(h:pw (ag t p)=true):p<t.size:=by
 grind[cY,pw]
theorem yC(h:ns (ag t p)=true):p<t.size:=by
 grind[cY,ns,dS]
theorem uC(h:mF (ag t p)=true):p<t.size:=by
 grind[cY,mF,dS,ez]
theorem Rx(D:p<=t.size):fN t p ⟨9,o,c⟩=if pw (ag t p)then fN t (p+1) ⟨10,o,c⟩else p:=
 gM (ok:=pw (ag t p)) (by decide) (by decide) D yB (by simp[bH,pw])
theorem Ry(D:p<=t.size):fN t p ⟨17,o,c⟩=if ns (ag t p)then fN t (p+1) ⟨5,o,c⟩else p:=
 gM (ok:=ns (ag t p)) (by decide) (by decide) D yC (by simp[bH,ns,dS,mC,Bool.or_comm])
theorem Rz(D:p<=t.size):fN t p ⟨6,o,c⟩=if mF (ag t p)then fN t (p+1) ⟨7,o,62⟩else p:=by
 have h:bH ⟨6,o,c⟩ (ag t p)=(fK (mF (ag t p)) 7,⟨6,o,62⟩):=by
  have:(mC (ag t p) 97 122||mC (ag t p) 65 90||ag t p==46)=mF (ag t p):=by
   grind[mF,ez,dS,mC,ag]
  grind[bH]
 cases q:mF (ag t p)with
 |true=>rw[js (uC q) h (by simp[q,fK])];grind[fK]
 |false=>grind[sP,fK]
theorem Oz(I:p<=t.size)(G:(ag t p==c)=false):
 fN t p ⟨11,o,c⟩=if(act t p ⟨ag t p,0,0⟩).1 then fN t (act t p ⟨ag t p,0,0⟩).2.2 ⟨11,o,c⟩else((act t p ⟨ag t p,0,0⟩).2.2:Int):=by
 unfold act;simp only
 split
 ·rename_i q
  have D:p<t.size:=by
   grind[cY]
  rw[js (m:=12) (w':=⟨11,o,c⟩) D (by simp only[bH,xD];simp[q]) (by decide)];simp only;rw[Js (p:=p+1) (by decide) (Or.inl ⟨rfl,rfl⟩) D];grind[jn,cL,ez,ag]
 rename_i q
 split
 ·rename_i E
  have D:=dy (by decide) E;rw[js (m:=13) (w':=⟨11,o,c⟩) D (by simp only[bH,xD];simp[q,E]) (by decide)];simp only;rw[Js (p:=p+1) (by decide) (Or.inr ⟨rfl,rfl⟩) D];simp only[se,mP,jn,cL]
  grind[ez,ag,qQ,Rw,iw]
 rename_i E
 split
 ·rename_i F
  have D:p<t.size:=by
   grind[cY]
  rw[js (m:=15) (w':=⟨11,o,c⟩) D (by simp only[bH,xD];simp[q,E,F]) (by decide)];simp only;rw[Jt (p:=p+1) (by decide) (Or.inr ⟨rfl,rfl⟩) D];simp only[mQ,mP,j9,cL]
  grind[jw,ag,lN,Ju,iw]
 grind[sP,bH,xD]
def nQ(c:Int):Int:=if c==62 then 17 else 5
theorem G2(D:c=59\/c=62):∀(n p:Nat) (l:List Ac),p<=t.size->t.size+1<=n+p->
 fN t p ⟨11,o,c⟩=if(iP t c n p l).1 then fN t (iP t c n p l).2.2 ⟨nQ c,o,c⟩else((iP t c n p l).2.2:Int):=by
 intro n
 induction n with
 |zero=>omega
 |succ n I=>?_
 intro p l F G
 cases q:ag t p==c with
 |true=>
  rw[oS q];have E:=dy (c:=c) (by rcases D with rfl|rfl<;>decide) q
  have J:ag t p=c:=by simpa using q
  have:bH ⟨11,o,c⟩ (ag t p)=(nQ c,⟨11,o,c⟩):=by
   grind[bH,xD,nQ]
  rw[js E this (by rcases D with rfl|rfl<;>decide)];simp
 |false=>?_
 rw[Oz F q]
 cases O:(act t p ⟨ag t p,0,0⟩).1 with
 |false=>grind[tz]
 |true=>?_
 grind[qR,xM,pY]
theorem Bi(D:c=59\/c=62)(E:p<=t.size):
 fN t p ⟨11,o,c⟩=if(bD t c p).1 then fN t (bD t c p).2.2 ⟨nQ c,o,c⟩else((bD t c p).2.2:Int):=
 G2 D _ _ _ E (by omega)
theorem US(h:(ag t p==63)=false):fN t p ⟨7,o,62⟩=fN t p ⟨11,o,62⟩:=by
 grind[tJ,bH,ag,xD,yA]
theorem G3(g:Gd):
 fN t p ⟨7,o,62⟩=if(guard t p g).1 then fN t (guard t p g).2.2 ⟨11,o,62⟩else((guard t p g).2.2:Int):=by
 unfold guard
 split
 ·rename_i q
  have D:=dy (by decide) q;rw[js (m:=8) (w':=⟨7,o,62⟩) D (by simp only[bH];simp[q]) (by decide)];simp only;rw[Jt (p:=p+1) (by decide) (Or.inl ⟨rfl,rfl⟩) D]
  cases F:jw (ag t (p+1))with
  |false=>simp
  |true=>?_
  have E:=lN F;simp only[aV];rw[Rx (by omega)];rw[show p+1+1=p+2 by rfl]
  cases G:pw (ag t (p+2))with
  |false=>simp
  |true=>?_
  grind[yB,Ju,iw,ag,cL]
 grind[US]
theorem xE{r:Rs}(D:Int)(G:r.pos<t.size)(I:(ag t r.pos==58)=true):
 fN t r.pos ⟨5,o,c⟩=if(transition t D r).1 then fN t (transition t D r).2.pos ⟨5,o,62⟩else((transition t D r).2.pos:Int):=by
 have J:ag t r.pos=58:=by simpa using I
 rw[js (m:=6) (w':=⟨5,o,c⟩) G (by rw[J];simp[bH,fj]) (by decide)];simp only;rw[Rz (p:=r.pos+1) G];unfold transition
 cases O:mF (ag t (r.pos+1))with
 |false=>simp
 |true=>?_
 have Y:=uC O;simp only[aV];rw[G3 (p:=r.pos+1+1) ⟨0,0,0⟩];have F:=sf (t:=t) (p:=r.pos+1+1) ⟨0,0,0⟩ (by omega);generalize guard t (r.pos+1+1) ⟨0,0,0⟩=E at*
 cases Z:E.1 with
 |false=>simp
 |true=>?_
 simp only[aV];rw[Bi (Or.inr rfl) F.2];have X:=u9 (t:=t) (cl:=62) (p:=E.2.2) F.2;generalize bD t 62 E.2.2=U at*
 grind[nQ,Ry,ns,ag,cL]
theorem G4{r:Rs}(D:Int)(E:r.pos<t.size)(F:(ag t r.pos==94||ag t r.pos==36)=true):
 fN t r.pos ⟨5,o,c⟩=if(block t D r).1 then fN t (block t D r).2.pos ⟨5,o,59⟩else((block t D r).2.pos:Int):=by
 have:bH ⟨5,o,c⟩ (ag t r.pos)=(11,⟨5,o,59⟩):=by
  grind[ag,bH,fj]
 rw[js E this (by decide)];grind[Bi,block,bD,nQ]
end
theorem nw(x:Int)(h:dz x=true):x=40\/x=91\/x=60\/x=42:=by
 simp[dz]at h;omega
theorem xa{t:ByteArray}{r:Rs}{it:Int->Int->Rs->Bool×Rs}{o:List Int}{c m:Int}(parent:Int)
 (Ga:∀a k s X,(k=41\/k=93)->Ok t s->r.pos<s.pos->∃D,fN t s.pos ⟨5,o++[k],X⟩=if(it a k s).1 then fN t (it a k s).2.pos ⟨if o.length==0 then 18 else 5,o,D⟩else((it a k s).2.pos:Int))
 (Y:Ok t r) (U:dz (ag t r.pos)=true) (hm:(m=5/\o≠[])\/(m=0/\o=[]/\(ag t r.pos=40\/ag t r.pos=91))):
 ∃D,fN t r.pos ⟨m,o,c⟩=if(bL t it parent r).1 then fN t (bL t it parent r).2.pos ⟨if o.length==0 then 18 else 5,o,D⟩else((bL t it parent r).2.pos:Int):=by
 have E:=jM U;obtain⟨⟨d1,d2,d3,d4⟩,h5⟩:=Y;have O:=lk (t:=t) (r:={r with pos:=r.pos+1}) (ag t r.pos) parent ⟨⟨by simp only;omega,by simp only;omega,by simp only;omega,by simp only;omega⟩,by simp only;omega⟩
 have hb:∀x,ag t r.pos=x->(x=40\/x=91)->bH ⟨m,o,c⟩ (ag t r.pos)=(1,⟨m,o++[if x==40 then 41 else 93],c⟩):=by
  grind[hm,bH,fj]
 have I:(bh t (ag t r.pos) parent {r with pos:=r.pos+1}).1=dS (ag t (r.pos+1)):=by
  grind[bh,dS,ag]
 have F:dS (ag t (r.pos+1))=true->(bh t (ag t r.pos) parent {r with pos:=r.pos+1}).2.pos=r.pos+1+1:=by
  grind[bh]
 have Z:dS (ag t (r.pos+1))=false->(bh t (ag t r.pos) parent {r with pos:=r.pos+1}).2.pos=r.pos+1:=by
  grind[bh]
 unfold bL;generalize bh t (ag t r.pos) parent {r with pos:=r.pos+1}=s at*;rw[I]
 rcases nw _ U with q|q|q|q
 ·rw[js E (hb _ q (Or.inl rfl)) (by decide)]
  simp only;rw[xS (p:=r.pos+1) (by decide) (Or.inl ⟨rfl,rfl⟩) E,q]
  cases J:dS (ag t (r.pos+1))with
  |false=>simp_all
  |true=>?_
  have e:=F J;have:=Ga r.ai.length 41 s.2 c (Or.inl rfl) O.1 (by omega);simp_all
 ·rw[js E (hb _ q (Or.inr rfl)) (by decide)]
  simp only;rw[xS (p:=r.pos+1) (by decide) (Or.inl ⟨rfl,rfl⟩) E,q]
  cases J:dS (ag t (r.pos+1))with
  |false=>simp_all
  |true=>?_
  have e:=F J;have:=Ga r.ai.length 93 s.2 c (Or.inr rfl) O.1 (by omega);simp_all
 ·obtain⟨rfl,G⟩:m=5/\o≠[]:=by
   simp_all
  rw[js (m:=2) (w':=⟨5,o,c⟩) E (by rw[q];simp[bH,fj]) (by decide)];simp only;rw[xS (p:=r.pos+1) (by decide) (Or.inr (Or.inr ⟨rfl,rfl⟩)) E,q]
  grind[dS,ag,lO,Oy,cL]
 obtain⟨rfl,G⟩:m=5/\o≠[]:=by
  simp_all
 rw[js (m:=4) (w':=⟨5,o,c⟩) E (by rw[q];simp[bH,fj]) (by decide)];grind[xS,dS,ag]
theorem G5{t:ByteArray}:∀(n:Nat) (D cl:Int) (r:Rs) (o:List Int) (c:Int),(cl=41\/cl=93)->Ok t r->t.size+1<=n+r.pos->
 ∃J,fN t r.pos ⟨5,o++[cl],c⟩=if(aP t n D cl r).1 then fN t (aP t n D cl r).2.pos ⟨if o.length==0 then 18 else 5,o,J⟩else((aP t n D cl r).2.pos:Int):=by
 intro n
 induction n with
 |zero=>intro D cl r o c _ h X;have:=h.2;omega
 |succ n G=>?_
 intro D cl r o c F h X;simp only[aP]
 split
 ·rename_i q
  have hs:=jl (it:=aP t n) (λa c s hc hs=>jZ n a c s hc hs) D (jM q) h;obtain⟨c1,e1⟩:=xa (it:=aP t n) (o:=o++[cl]) (c:=c) (m:=5) D (λa k s J hk hs E=>G a k s _ J hk hs (by omega)) h q (Or.inl ⟨rfl,by simp⟩);rw[e1];generalize bL t (aP t n) D r=s at*
  cases O:s.1 with
  |false=>simp_all
  |true=>?_
  obtain⟨c2,e2⟩:=G D cl s.2 o c1 F hs.1 (by omega);grind
 split
 ·rename_i q
  have E:=dy (by decide) q;have hs:=jk D E h;rw[xE D E q];generalize transition t D r=s at*
  cases O:s.1 with
  |false=>simp_all
  |true=>?_
  obtain⟨c2,e2⟩:=G D cl s.2 o 62 F hs.1 (by omega);grind
 split
 ·rename_i q
  have E:r.pos<t.size:=by
   grind[cY]
  have hs:=p_ D E h;rw[G4 D E q];generalize block t D r=s at*
  cases O:s.1 with
  |false=>simp_all
  |true=>?_
  obtain⟨c2,e2⟩:=G D cl s.2 o 59 F hs.1 (by omega);grind
 rename_i O Z q3
 have U:bH ⟨5,o++[cl],c⟩ (ag t r.pos)=if ag t r.pos !=cl then(-1,⟨5,o++[cl],c⟩)else(if(o++[cl]).length==1 then 18 else 5,⟨5,o,c⟩):=by
  grind[dz,ag,bH,fj]
 cases I:ag t r.pos==cl with
 |false=>
  rw[sP h.2 (by simp) (by rw[U];simp at I;simp[I])];exact⟨0,by simp[cL]⟩
 |true=>?_
 have Y:ag t r.pos=cl:=by simpa using I
 have E:=dy (c:=cl) (by rcases F with rfl|rfl<;>decide) I;refine⟨c,?_⟩;rw[js (m:=if o.length==0 then 18 else 5) (w':=⟨5,o,c⟩) E (by rw[U];simp[Y]) (by split<;>decide)];simp[cL]
theorem Lh(t:ByteArray):yz t=if(chart t).1 then-1 else((chart t).2.pos:Int):=by
 have e0:yz t=fN t 0 ⟨0,[],0⟩:=by unfold yz fN;rfl
 rw[e0];unfold chart
 cases q:(ag t 0==40||ag t 0==91)with
 |false=>
  grind[sP,ag,bH,r0]
 |true=>?_
 have D:dz (ag t r0.pos)=true:=by
  show dz (ag t 0)=true
  grind[dz]
 have hs:=jl (it:=aP t (t.size+1)) (λa c s hc hs=>jZ (t.size+1) a c s hc hs) (-1) (r:=r0) (jM D) (ud t)
 obtain⟨c1,e1⟩:=xa (r:=r0) (it:=aP t (t.size+1)) (o:=[]) (c:=0) (m:=0) (-1) (λa k s c' hk hs hlt=>G5 (t.size+1) a k s [] c' hk hs (by omega)) (ud t) D
  (Or.inr ⟨rfl,rfl,by show ag t 0=40\/ag t 0=91;simpa using q⟩)
 rw[show fN t 0 ⟨0,[],0⟩=fN t r0.pos ⟨0,[],0⟩from rfl,e1];generalize bL t (aP t (t.size+1)) (-1) r0=s at*;simp only[aV]
 cases I:s.1 with
 |false=>simp
 |true=>?_
 simp only[aV];have F:=hs.1.2
 by_cases G:s.2.pos=t.size
 ·grind[yA]
 have E:((s.2.pos:Int)==(t.size:Int))=false:=by simp;omega
 rw[E];rw[tJ (by omega)];simp[bH]
