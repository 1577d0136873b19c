import Derived.Test.YtnlbchmfcebeeaaGreatTOe
set_option maxHeartbeats 12800000
set_option maxRecDepth 100000
namespace Go.Proofs.YtnlbchmfcebeeaaGreat
open Go.Proofs.Tryz Ch
open Go.RowKit
open Value(int slice bool pointer string agg tuple)
open IntKind(i64)
open Obj(cells)
open Ending(returned)
open Operand(tmp)
open Or(inl inr)
namespace Ch
def U2(L:Ln)(u:Nat)(r:Rq):Ln:={L with stands:=L.stands.set u true,asked:=L.asked.set u r,uG:=L.uG.set u ((L.all.length:Int)-1),steps:=L.steps.set u 0}
theorem SI.ask{ol x all log u k}(h:SI ol x all log)(hu:x.ai[u]? =some k)(hk:k.kind=0){r}(D:pG r=true):SI ol (aD x u (sT r)) all log:=by
 have e:=(h.tk u k hu).idle hk;subst e;have E:r.kind≠0:=by rcases zZ D with e|e|e|e<;>omega
 refine h.set hu (λm=>by rw[vX,xN rfl]) ?_ rfl (λd=>by simp[iC]at d);exact⟨λe=>absurd (show r.kind=0 from e) E,λ_=>D,λd=>by simp[sT,iC]at d,by simp[sT,iC],λ_=>rfl,λ_ e=>by simp[sT,iC]at e,λ_=>rfl,λe=>by simp[sT,iC]at e⟩
theorem Xl{t ol}(Q:Fj t ol)(hm:(cR ol).2.2=0){n}(I:n<=6):SI ol (sR ol n) [(cR ol).1] (cR ol).2.1:=by
 have J:fY (List.replicate n iC) 0=0:=by
  grind[fY,vX]
 have hk:=Au (all:=[]) (l:=List.replicate n iC) (cR ol).1 J;have D:∀(i:Nat) (a:Tk),(List.replicate n iC)[i]? =some a->a=iC:=by
  grind
 refine⟨rfl,dy,?_,?_,?_,?_,by simpa[sR,lQ]using I,?_,?_,?_,aC _⟩
 ·exact hk
 ·grind[MU,hm]
 ·show 0+(cR ol).2.1.size=_;omega
 ·have:=JT ⟨#[]⟩ (cR ol).2.1;have e0:((⟨#[]⟩:ByteArray)++(cR ol).2.1)=(cR ol).2.1:=by apply lZ;simp[ByteArray.data_append]
  rw[e0]at this;exact this
 ·intro i a G;rw[D i a G];grind[OB]
 ·intro i j ti tj hi R E;rw[D i ti hi]at E;grind[iC]
 intro m O F;have:m<0:=F;omega
structure LR(ol:Ol)(x:Sv)(all:List Sd)log(L:Ln):Prop where
 al:L.all=all.map (bX ol.ah)
 lg:L.log=log
 ls:L.stands.length=x.ai.length
 la:L.asked.length=x.ai.length
 ll:L.uG.length=x.ai.length
 lp:L.steps.length=x.ai.length
 tk:∀(u:Nat) k,x.ai[u]? =some k->∃l s,L.stands[u]? =some (decide (k.kind≠0))/\L.uG[u]? =some l/\L.steps[u]? =some s/\0<=s/\
  (k.kind≠0->L.asked[u]? =some ⟨k.kind,k.events,k.at_⟩/\0<=l/\l<=(all.length:Int)-1/\(k.kind=3->s=(k.steps:Int)/\(1<=k.steps->k.at_<0->l<=k.pinned)))
theorem Xm{α:Type}{l:List α}{u}{i}{b}{a}(h:l[i]? =some a):(l.set u b)[i]? =some (if i=u then b else a):=by
 grind
section
variable {ol:Ol} {x x':Sv} {all all':List Sd} {log log':ByteArray} {L L':Ln} {u:Nat} {k k':Tk}
theorem LR.ask(r:LR ol x all log L)(hu:x.ai[u]? =some k)(I:0<all.length){q}(J:q.kind≠0):LR ol (aD x u (sT q)) all log (U2 L u q):=by
 have F:L.all.length=all.length:=by rw[r.al,fN]
 refine⟨r.al,r.lg,by simp[U2,aD,r.ls],by simp[U2,aD,r.la],by simp[U2,aD,r.ll],by simp[U2,aD,r.lp],?_⟩;intro i a D;have⟨hlt,_⟩:=aM.1 hu;rcases jK D with⟨rfl,rfl⟩|⟨G,D⟩
 ·have g:∀{α:Type} (l:List α) (b:α),l.length=x.ai.length->(l.set i b)[i]? =some b:=by
   simp_all
  refine⟨(all.length:Int)-1,0,?_,?_,?_,Int.le_refl _,?_⟩
  ·show(L.stands.set i true)[i]? =_;rw[g _ _ r.ls];grind[sT]
  ·show(L.uG.set i ((L.all.length:Int)-1))[i]? =_;rw[g _ _ r.ll,F]
  ·exact g _ _ r.lp
  intro _;refine⟨g _ _ r.la,oQ,Int.le_refl _,λ_=>⟨rfl,λc=>by simp[sT,iC]at c⟩⟩
 have⟨l,s,h1,h2,h3,h4,h5⟩:=r.tk i a D;refine⟨l,s,?_,?_,?_,h4,?_⟩
 ·show(L.stands.set u true)[i]? =_;grind
 ·show(L.uG.set u _)[i]? =_;rw[Xm h2,ax G]
 ·show(L.steps.set u 0)[i]? =_;grind
 intro E;have⟨f1,f2,f3,f4⟩:=h5 E;refine⟨?_,f2,f3,f4⟩;show(L.asked.set u q)[i]? =_;grind
theorem LR.new ol n:LR ol (sR ol n) [(cR ol).1] (cR ol).2.1 (Yh (bX ol.ah (cR ol).1) (cR ol).2.1 n):=by
 refine⟨rfl,rfl,by simp[Yh,sR,lQ],by simp[Yh,sR,lQ],by simp[Yh,sR,lQ],by simp[Yh,sR,lQ],?_⟩;intro i a F;have D:(List.replicate n iC)[i]? =_:=F;have e:=List.eq_of_mem_replicate (aP D);have E:i<n:=by have:=(aM.1 D).1;simpa using this
 subst e;refine⟨0,0,by simp[Yh,E,iC],by simp[Yh,E],by simp[Yh,E],Int.le_refl _,λh=>absurd rfl h⟩
end
theorem OC(b:ByteArray){i}{j}{m}(D:i<=j)(E:j<=m):(b.extract i b.size).extract (j-i) (m-i)=b.extract j m:=by
 apply lZ;apply Array.toList_inj.1;simp_all<;>omega
theorem SI.acB{ol x all log}(h:SI ol x all log){a}(E:0<=a):
 ((log.size:Int)<a/\pR x a={eY with err:=14,mY:=(all.length:Int)-1})\/
 (a<(log.size:Int)-24/\pR x a={eY with err:=15,mY:=(all.length:Int)-1})\/
 (a<=(log.size:Int)/\(log.size:Int)-24<=a/\pR x a={eY with mY:=(all.length:Int)-1,next:=(if a+8<(log.size:Int)then a+8 else(log.size:Int)),text:=log.extract a.toNat (if a+8<(log.size:Int)then a+8 else(log.size:Int)).toNat}):=by
 have D:x.tail.size=log.size-(log.size-24):=by rw[h.tail,sZ];omega
 by_cases c1:(log.size:Int)<a
 ·left;refine⟨c1,?_⟩;have e:i_ x.joined x.tail a=(⟨#[]⟩,14):=by unfold i_;rw[h.joined,aq c1]
  unfold pR;rw[e,aq aV];unfold kh;rw[h.made]
 right;by_cases c2:a<(log.size:Int)-(x.tail.size:Int)
 ·left;refine⟨oQ,?_⟩;have e:i_ x.joined x.tail a=(⟨#[]⟩,15):=by unfold i_;rw[h.joined,ax c1,aq c2]
  unfold pR;rw[e,aq aV];unfold kh;rw[h.made]
 right;refine⟨oQ,oQ,?_⟩;have hi:(a-((log.size:Int)-(x.tail.size:Int))).toNat=a.toNat-(log.size-24):=oQ;have e:i_ x.joined x.tail a=(log.extract a.toNat (if a+8<(log.size:Int)then a+8 else(log.size:Int)).toNat,0):=by
  unfold i_;rw[h.joined,ax c1,ax c2,hi];by_cases c3:a+8<(log.size:Int)
  ·rw[aq oQ,aq c3,h.tail,show a.toNat-(log.size-24)+8=(a.toNat+8)-(log.size-24)by omega,OC log oQ oQ,show(a+8).toNat=a.toNat+8 by omega]
  rw[ax oQ,ax c3,D,h.tail,OC log oQ oQ];rfl
 have F:(log.extract a.toNat (if a+8<(log.size:Int)then a+8 else(log.size:Int)).toNat).size=(if a+8<(log.size:Int)then a+8 else(log.size:Int)).toNat-a.toNat:=by
  simp_all<;>omega
 unfold pR;rw[e,ax dy,h.made];grind
def kK(t:Tk):Nat:=if t.kind=3 then t.steps else if t.drawn then t.ay+1 else 0
def ud(ol:Ol)(t:Tk):As:=if 0<t.ay then bX ol.ah t.now else kJ
end Ch
def jH(ol:Ol)(t:Tk):List Value:=[bool (t.kind !=0),int i64 t.kind,string t.events,int i64 t.at_,int i64 (kK t),int i64 t.cD,int i64 t.pinned]++(pD (ud ol t)++[string t.out])
theorem mh ol t:(jH ol t).length=14:=rfl
theorem ws0 ol:(jH ol iC).toArray=nw:=rfl
theorem uH ol t:∀u∈jH ol t,u.oneCell'=true:=by
 intro u hu;simp only[jH,pD,cS,dB,gJ,gK]at hu;rcases hu with(rfl|rfl|rfl|rfl|rfl|rfl|rfl)|(rfl|rfl|rfl|rfl|rfl|rfl)|rfl<;>rfl
def gG(ol:Ol)(l:List Tk):List Value:=l.flatMap (jH ol)
def Bk(ol:Ol)(l:List Sd):List Value:=l.flatMap λs=>pD (bX ol.ah s)
structure Rl where
 yb:Nat
 gb:Nat
 cb:Nat
 B:Nat
 l:List NV
 v:Value
def KH(p:Rl)(n:Nat)(av:Value)(log:ByteArray)(k:Nat):Array Value:=#[pointer (some ⟨p.cb,0,none⟩),av,string log,slice (some ⟨p.gb,0,none⟩) n n,int i64 k]
structure kL(w:World)p ol(x:Sv)all log av:Prop where
 cj:w.heap[p.yb]? =some (cells (KH p x.ai.length av log x.bj) 234 (0,0))
 row:w.ownsRow 0 26 6 av all.length (Bk ol all)
 JV:w.heap[p.gb]? =some (cells (gG ol x.ai).toArray 236 (0,0))
 ch:ku w p.B p.cb p.l p.v
 rf:Rf p.l ol
def C3(p:Rl)(av:Value)(k:Nat):Prop:=k=p.yb\/k=p.gb\/av.ownBlock=some k
def lI(w w':World)(p:Rl)(ol:Ol)(av:Value)(x':Sv)(D:List Sd)(log':ByteArray):Prop:=
 ∃E,kL w' p ol x' D log' E/\(∀k,E.ownBlock=some k->av.ownBlock=some k\/w.heap.size<=k)/\Kp (C3 p av) w w'
theorem pJ:(prog.info? 236).map (·.size)=some 14:=bZ
theorem JW:∃d,prog.underlying 236=some d/\ee d=true:=⟨_,underlying236,rfl⟩
theorem ZY:(prog.info? 236).map (λi=>(i.zero,i.size,i.bytes))=some (some (agg nw),14,152):=bZ
def He(T:TypeId):Prop:=T=223\/T=9\/T=292\/T=219
section
variable {w w':World} {p:Rl} {ol:Ol} {x:Sv} {all:List Sd} {log:ByteArray} {av:Value}
theorem kL.aB{S}(h:kL w p ol x all log av)(K:Kp S w w')(hs:∀k,C3 p av k->¬S k)(E:∀i D T,w.heap[i]? =some (cells D T (0,0))->He T->¬S i):kL w' p ol x all log av:=
 ⟨K.at_ h.cj (hs _ (inl rfl)),K.owns h.row (λk e=>hs k (inr (inr e))),K.at_ h.JV (hs _ (inr (inl rfl))),h.ch.pO K (λi D T hi _ hT=>E i D T hi hT),h.rf⟩
theorem kL.aw(h:kL w p ol x all log av)(K:Kp bA w w'):kL w' p ol x all log av:=h.aB K (λ_ _ x=>x) (λ_ _ _ _ _ x=>x)
theorem kL.cell(h:kL w p ol x all log av)j:w.cell? ⟨p.yb,j,none⟩=(KH p x.ai.length av log x.bj)[j]?:=by rw[World.cell?,h.cj];rfl
theorem kL.free(h:kL w p ol x all log av)j:w.frozen? ⟨p.yb,j,none⟩=false:=by simp[World.frozen?,h.cj]
theorem kL.sn(h:kL w p ol x all log av)j:w.frozen? ⟨p.gb,j,none⟩=false:=by simp[World.frozen?,h.JV]
theorem kL.fG(h:kL w p ol x all log av){u}{t}(hu:x.ai[u]? =some t){j}(D:j<14):w.cell? ⟨p.gb,u*14+j,none⟩=(jH ol t)[j]?:=by
 rw[ke h.JV];exact kg (jH ol) 14 x.ai u t j (λ_ _=>mh _ _) hu D
theorem kL.C4(h:kL w p ol x all log av){u}{t}(hu:x.ai[u]? =some t):∀j v,(jH ol t)[j]? =some v->w.cell? ⟨p.gb,u*14+j,none⟩=some v:=λj v hv=>by
 rw[h.fG hu (by have:=(aM.1 hv).1;rw[mh]at this;exact this)];exact hv
theorem kL.ne(h:kL w p ol x all log av):p.yb≠p.gb/\av.ownBlock≠some p.yb/\av.ownBlock≠some p.gb:=by
 refine⟨λe=>?_,aZ h.row h.cj aV,aZ h.row h.JV aV⟩;have D:=h.cj;rw[e,h.JV]at D;simp_all
theorem kL.apart(h:kL w p ol x all log av):∀i D T,w.heap[i]? =some (cells D T (0,0))->He T->¬C3 p av i:=by
 have F:∀{T E:TypeId} {c G:Array Value} {i:Nat},w.heap[i]? =some (cells c T (0,0))->w.heap[i]? =some (cells G E (0,0))->T=E:=λh1 h2=>by
  simp_all
 rintro i D T hi I (rfl|rfl|e)
 ·have:=F hi h.cj;grind[He]
 ·have:=F hi h.JV;grind[He]
 have⟨c,hc⟩:=bC h.row e;grind[He]
theorem kL.turn(h:kL w p ol x all log av){S}(K:Kp S w w')(D:∀k,S k->k=p.yb\/k=p.gb){x'}{log'}(E:w'.heap[p.yb]? =some (cells (KH p x'.ai.length av log' x'.bj) 234 (0,0)))(F:w'.heap[p.gb]? =some (cells (gG ol x'.ai).toArray 236 (0,0))):kL w' p ol x' all log' av:=
 ⟨E,K.owns h.row (λk e s=>(D k s).elim (λq=>h.ne.2.1 (by rw[<-q];exact e)) (λq=>h.ne.2.2 (by rw[<-q];exact e))),F,h.ch.pO K (λi cur T hi _ hT s=>h.apart i cur T hi hT ((D i s).elim inl (λq=>inr (inl q)))),h.rf⟩
theorem kL.Rw(h:kL w p ol x all log av){u}{t}{t'}(hu:x.ai[u]? =some t)j(D:j<14)v(E:jH ol t'=(jH ol t).set j v):kL (w.setCell ⟨p.gb,u*14+j,none⟩ v) p ol (aD x u t') all log av:=by
 have K:Kp _ _ (w.setCell ⟨p.gb,u*14+j,none⟩ v):=(Kp.refl (λk=>k=p.gb) w).setCell (p:=⟨p.gb,u*14+j,none⟩) (λ_=>rfl) _;refine h.turn K (λ_=>inr) ?_ ?_
 ·rw[K.at_ h.cj h.ne.1];grind[KH,aD]
 rw[ar _ h.JV];congr 2;have:=tW (jH ol) 14 x.ai u t t' j v (λ_ _=>mh _ _) hu D E;unfold gG;show _=(List.flatMap (jH ol) (x.ai.set u t')).toArray;simp_all
theorem kL.acC(h:kL w p ol x all log av){u}{t}{t'}(hu:x.ai[u]? =some t)j l(D:j+l.length<=14)(E:jH ol t'=(jH ol t).take j++l++(jH ol t).drop (j+l.length)):
 kL (w.setRow p.gb (putAt (gG ol x.ai).toArray (u*14+j) l)) p ol (aD x u t') all log av:=by
 have K:Kp _ _ (w.setRow p.gb (putAt (gG ol x.ai).toArray (u*14+j) l)):=(Kp.refl (λk=>k=p.gb) w).setRow (λ_=>rfl) _;refine h.turn K (λ_=>inr) ?_ ?_
 ·rw[K.at_ h.cj h.ne.1];grind[KH,aD]
 rw[an w p.gb _ _ 236 (0,0) h.JV];congr 2;exact zW (jH ol) 14 x.ai u t t' j l (λ_ _=>mh _ _) hu D E
theorem kL.CS(h:kL w p ol x all log av)j v{log'}{k'}(he:(KH p x.ai.length av log x.bj).setIfInBounds j v=KH p x.ai.length av log' k'):kL (w.setCell ⟨p.yb,j,none⟩ v) p ol {x with bj:=k'} all log' av:=by
 have K:Kp _ _ (w.setCell ⟨p.yb,j,none⟩ v):=(Kp.refl (λk=>k=p.yb) w).setCell (p:=⟨p.yb,j,none⟩) (λ_=>rfl) _;refine h.turn K (λ_=>inl) ?_ (K.at_ h.JV h.ne.1.symm);rw[ar _ h.cj,he]
theorem kL.Yi(x:Sv):(gG ol x.ai).toArray.size=x.ai.length*14:=by
 simp only[List.size_toArray];exact tV (jH ol) 14 x.ai (λ_ _=>mh _ _)
theorem kL.low(h:kL w p ol x all log av):∀k,C3 p av k->k<w.heap.size:=by
 rintro k (rfl|rfl|e)
 ·exact aR h.cj
 ·exact aR h.JV
 have⟨cur,hc⟩:=bC h.row e;grind
theorem lI.of(h:kL w' p ol x all log av)(K:Kp (C3 p av) w w'):lI w w' p ol av x all log:=⟨av,h,λ_ e=>inl e,K⟩
theorem lI.trans{E x' D log' F}(K:Kp (C3 p av) w w')(hk:∀k,F.ownBlock=some k->av.ownBlock=some k\/w.heap.size<=k)(q:lI w' E p ol F x' D log'):lI w E p ol av x' D log':=by
 have⟨av2,h2,n2,K2⟩:=q;refine⟨av2,h2,λk e=>(n2 k e).elim (hk k) (λe'=>inr (bz K.size e')),K.trans' K2 ?_⟩;rintro i hi (s|s|s)
 ·exact inl s
 ·exact inr (inl s)
 rcases hk i s with e|e
 ·exact inr (inr e)
 omega
theorem kL.eqv{x'}(h:kL w p ol x all log av)(D:x'.ai=x.ai)(E:x'.bj=x.bj):kL w p ol x' all log av:=⟨by rw[D,E];exact h.cj,h.row,by rw[D];exact h.JV,h.ch,h.rf⟩
theorem kL.Nl(h:kL w p ol x all log av){n}{s}(E:all[n]? =some s):∃g D,av= slice (some ⟨g,0,none⟩) all.length D/\∀j v,(pD (bX ol.ah s))[j]? =some v->w.cell? ⟨g,n*6+j,none⟩=some v:=by
 have G:=(aM.1 E).1;obtain⟨g,D,rfl,_⟩:=cO h.row oQ;refine⟨g,D,rfl,λj v hv=>?_⟩;have F:j<6:=(aM.1 hv).1;rw[<-hv,<-kg (λs=>pD (bX ol.ah s)) 6 all n s j (λ_ _=>rfl) E F];exact bK h.row (n*6+j) oQ
end
namespace Ch
theorem JX{n m l}(h:∀t∈l,jE n t=false)(hm:¬m<=n+4):ey m l n=false:=by
 unfold ey fY;simp_all
theorem Rx{n m l t}(D:t∈l)(h:jE n t=true):ey m l n=true:=by
 unfold ey fY;rw[gf (List.countP_pos_iff.2 ⟨t,D,h⟩)];rfl
def Aw(n:Nat)(e:Int):Rp:={eY with err:=e,mY:=(n:Int)-1}
end Ch
theorem z_ w{p}{ol}{x}{all}{log}{av}(h:kL w p ol x all log av)n(hn:n<all.length)(hl:all.length<=1000000000000)(h6:x.ai.length<=6):
 Calls prog 154 #[pointer (some ⟨p.yb,0,none⟩),int i64 n] w λy w'=>y=returned (bool (ey all.length x.ai n))/\Kp bA w w':=by
 have⟨dw,X,GZ⟩:=JW;have c1:_=some av:=h.cell 1;have c3:w.cell? _=some (slice (some ⟨p.gb,0,none⟩) x.ai.length x.ai.length):=h.cell 3;obtain⟨ao,ad,rfl⟩:=bp h.row;have aj:(n:Int)<all.length:=oQ;by_cases q:all.length<=n+4
 ·have q':(all.length:Int)-4<=(n:Int):=oQ;have U:=ag (show ey all.length x.ai n=true by unfold ey;rw[gf q,Bool.or_true]);go_in;go_wp2;go_ret;exact⟨by rw[U];rfl,Kp.refl _ _⟩
 have q':¬(all.length:Int)-4<=(n:Int):=oQ;have H:=ag h;have HQ:=ag q;go_in;go_wp;go_loopw [5] (λi wr=>∃k:Nat,i= int i64 k/\k<=x.ai.length/\Hid (∀j t,j<k->x.ai[j]? =some t->jE n t=false)/\Kp bA w wr) (λi _=>x.ai.length-(intOf i).toNat)
 case atStart=>exact⟨0,rfl,aA _,ag (λj _ hj=>oQ),Kp.refl _ _⟩
 case round=>
  obtain⟨k,rfl,hk,HN,Q⟩:=hrel;have ab:=Q.bN c3;by_cases Y:k<x.ai.length
  ·have G:(k:Int)<x.ai.length:=oQ;obtain⟨t,R⟩:∃t,x.ai[k]? =some t:=⟨_,au Y⟩
   have hc:=(H.aw Q).C4 R;have hz:((k*14:Nat):Int)=(k:Int)*14:=oQ;have F:=ak wr (cells nw 236);have D:=an (wr.alloc (cells nw 236)) wr.heap.size nw (jH ol t).toArray 236 (0,0) F;have K2:=rQ wr (cells nw 236) (jH ol t).toArray;have I:(jH ol t).toArray.all (λx=>x.oneCell')=_:=gH.2 (λu hu=>uH ol t u (cX hu));have HT:=ag R;go_upto_region 7 with(first|refine bS rfl 236 (tmp 42) rfl p.gb (k*14) rfl (jH ol t) dw hc X GZ pJ ?_|refine bJ (jH ol t).toArray F pJ rfl I ?_);have KX:=Q.trans K2;generalize (wr.alloc (cells nw 236)).setRow wr.heap.size (jH ol t).toArray=O at*;generalize wr.heap.size=nb at*;have d0:O.cell? ⟨nb,0,none⟩=some (bool (t.kind !=0)):=dG D rfl;have d1:O.cell? ⟨nb,1,none⟩=some (int i64 t.kind):=dG D rfl;have d4:O.cell? ⟨nb,4,none⟩=some (int i64 (kK t)):=dG D rfl;have d6:O.cell? ⟨nb,6,none⟩=some (int i64 t.pinned):=dG D rfl;simp only[Act.put];go_cut [62]from 44 to 62 (λv wx=>v= bool (jE n t)/\wx=O)
   case first=>
    by_cases Z:t.kind=0
    ·have E:=ag (show jE n t=false by simp[jE,Z]);rw[Z]at d0;go_wp2;go_meet;exact⟨by rw[E],rfl⟩
    have e0:(t.kind !=0)=true:=cX Z;rw[e0]at d0;by_cases J:t.kind=3
    ·rw[J]at d1;have e4:kK t=t.steps:=by unfold kK;rw[aq J]
     rw[e4]at d4;have U:=ag J;by_cases q2:0<t.steps
     ·have aa:(0:Int)<t.steps:=oQ;have E:=ag (show jE n t=(t.pinned==(n:Int))by unfold jE;rw[U,gf (show 1<=t.steps from q2)];rfl);go_wp2;go_meet;exact⟨by rw[E],rfl⟩
     have aa:¬(0:Int)<t.steps:=oQ;have E:=ag (show jE n t=false by unfold jE;rw[fB (show¬ 1<=t.steps by omega)];simp);go_wp2;go_meet;exact⟨by rw[E],rfl⟩
    have E:=ag (show jE n t=false by unfold jE;rw[fB J];rfl);have am:(t.kind==3)=false:=cX J;go_wp2;go_meet;exact⟨by rw[E],rfl⟩
   case rest=>
    obtain⟨rfl,rfl⟩:=hcut;cases hp:jE n t with
    |true=>
     go_wp2;go_ret;exact⟨by rw[Rx (aP HT) hp];rfl,KX⟩
    |false=>?_
    have E:=ag hp;go_wp2;go_roundw
    case rel=>
     refine⟨k+1,eb,oQ,ag (λj t' hj ht'=>?_),KX⟩;by_cases e:j=k
     ·subst e;have:=ht'.symm.trans HT;simp at this;subst this;exact E
     exact HN j t' oQ ht'
    case measure=>exact ew
  have G:¬(k:Int)<x.ai.length:=oQ;obtain rfl:k=x.ai.length:=oQ;go_wp2;go_ret;refine⟨?_,Q⟩;rw[JX (λt R=>by
   have⟨i,hi,e⟩:=List.getElem_of_mem R;exact HN i t hi (by rw[au hi,e])) HQ]
  rfl
theorem yT w{p}{ol}{x}{all}{log}{av}(h:kL w p ol x all log av)e(Q:all.length<=1000000000000):
 Calls prog 208 #[pointer (some ⟨p.yb,0,none⟩),int i64 e] w λy w'=>y=returned (agg (bU (Aw all.length e)))/\Kp bA w w':=by
 have⟨dr,hdr,fX⟩:=o0;have c1:_=some av:=h.cell 1;have R:=aR h.cj;obtain⟨O,J,rfl⟩:=bp h.row;have F:=kG w (cells aU 64);have I:=F.bN c1;have D:=ak w (cells aU 64);have E:=an (w.alloc (cells aU 64)) w.heap.size aU (bU (Aw all.length e)) 64 (0,0) D;have G:Kp _ _ ((w.alloc (cells aU 64)).setRow w.heap.size (bU (Aw all.length e))):=F.setRow (λx=>oQ) _;go_in;go_wp2_with (refine bJ (bU (Aw all.length e)) D bh rfl (du _) ?_);refine uY E hdr fX bh ?_;exact⟨rfl,G⟩
theorem DU w{p}{ol}{x}{all}{log}{av}(h:kL w p ol x all log av)(hl:all.length<=1000000000000)(h6:x.ai.length<=6):
 Calls prog 107 #[pointer (some ⟨p.yb,0,none⟩)] w λy w'=>∃v,y=returned v/\w'.ownsRow w.heap.size 3 1 v (uU all.length x.ai).length ((uU all.length x.ai).map λk:Nat=>int i64 (k:Int))/\Kp bA w w':=by
 have⟨i0,hi,hz0,hz1,hz2⟩:=cr nI;have c1:_=some av:=h.cell 1;obtain⟨ao,ab,rfl⟩:=bp h.row;have H:=ag h;clear h;have HL:=ag (show∀k,((List.range k).filter (ey all.length x.ai)).length<=k from λk=>by have:=mB (ey all.length x.ai) (List.range k);simpa using this);go_in;go_wp;go_loopw [3,4] (λlv i wr=>∃k:Nat,i= int i64 k/\k<=all.length/\Hid (wr.ownsRow w.heap.size 3 1 lv ((List.range k).filter (ey all.length x.ai)).length (((List.range k).filter (ey all.length x.ai)).map λk:Nat=>int i64 (k:Int)))/\Kp bA w wr) (λ_ i _=>all.length-(intOf i).toNat)
 case atStart=>exact⟨0,rfl,aA _,ag (cd _ _ _ _),Kp.refl _ _⟩
 case round=>
  rename_i lv _;obtain⟨k,rfl,hk,O,Q⟩:=hrel;have X:=Q.bN c1;by_cases aa:k<all.length
  ·have G:(k:Int)<all.length:=oQ;have E:=ag (z_ wr (H.aw Q) k aa hl h6);have Z:=HL k;obtain⟨L,Y⟩:∃L,L=(List.range k).filter (ey all.length x.ai):=⟨_,rfl⟩
   have F:=ag (show(List.range (k+1)).filter (ey all.length x.ai)=L++(if ey all.length x.ai k then[k]else[])by rw[lT,gZ,Y];simp[List.filter_cons]);rw[<-Y]at O Z;clear Y;go_wp;refine b9 E ?_;intro J K2;have U:=Q.trans K2;have o2:=K2.owns O (λ_ _ x=>x);clear E O X;cases R:ey all.length x.ai k with
   |false=>
    rw[R]at F;have D:=ag (F.trans (iz _));clear F R;go_wp2;exact⟨⟨k+1,eb,oQ,ag (by rw[D];exact o2),U⟩,ew⟩
   |true=>?_
   rw[R]at F;have D:=ag (show _=L++[k]from F);have I:=eZ J [int i64 k] 3;have o3:=(((Kp.refl bA J).alloc (cells #[int i64 k] 3)).owns o2 (λ_ _ x=>x))
   have K3:=kG J (cells #[int i64 k] 3);have hB:=U.size;clear F R o2;go_wp2_with (at_builtin;refine jk _ rfl (tmp 19) (tmp 21) 38 rfl w.heap.size 3 i0 (int i64 0) 1 8 underlying38 hi hz0 hz1 hz2 rfl aV _ _ _ rfl o3 ⟨J.heap.size,0,none⟩ 1 1 [int i64 k] rfl rfl ?c1 ?c2 ?c3 ?c4 ?c5 ?_)
   case c1=>exact I
   case c2=>intro u hu;simp at hu;subst hu;rfl
   case c3=>unfold maxLen;omega
   case c4=>omega
   case c5=>simp;omega
   intro v4 w4 o4 g4 _;have K4:Kp (λk=>w.heap.size<=k) (J.alloc (cells #[int i64 k] 3)) w4:=(Kp.refl _ _).grown g4 (λi e _=>(o3.lt i e).1);have KZ:Kp bA w w4:=(((U.trans K3).mono (S':=λk=>w.heap.size<=k) gM).trans' K4 (λ_ _ x=>x)).mono (λi hi x=>oQ);clear o3 g4 K4 I K3;go_wp2;exact⟨⟨k+1,eb,oQ,ag (by rw[D];simpa using o4),KZ⟩,ew⟩
  have G:¬(k:Int)<all.length:=oQ;obtain rfl:k=all.length:=oQ;go_wp2;go_ret;exact⟨_,rfl,O,Q⟩
theorem U3 ol r:prog.built 236 [(0,bool true),(1,agg (vk r))]=some (([bool true,int i64 r.kind,string r.events,int i64 r.at_]:List Value)++(jH ol iC).drop 4).toArray:=bZ
theorem JY w e:
 Calls prog 207 #[string e] w λr w'=>r=returned (bool (j3 e))/\w'=w:=by
 go_in;go_wp;go_loopw [3] (λiv wr=>∃i:Nat,iv= int i64 i/\i<=e.size/\i<=4/\wr=w/\Hid (∀j,j<i->ez (af e j)=true)) (λiv _=>5-(intOf iv).toNat)
 case atStart=>exact⟨0,rfl,aA _,aA _,rfl,ag (λj Z=>oQ)⟩
 case round=>
  obtain⟨i,rfl,Y,X,rfl,G⟩:=hrel;by_cases D:i<e.size
  ·have F:(i:Int)<e.size:=oQ;have O:_=some (e[i]'D):=getElem?_pos e i D;have Q:=ag (qg wr ((e[i]'D).toNat:Int) 97 122);have I:=ag (show ez (af e i)=nU ((e[i]'D).toNat:Int) 97 122 by simp[af,D,ez,nU]);generalize nU ((e[i]'D).toNat:Int) 97 122=ev at*;go_wp;refine cF Q ?_;cases ev with
   |true=>
    by_cases R:i=4
    ·subst R;have E:=ag (yQ (e:=e) (Or.inr D));exact iN E
    have U:¬(4:Int)<=i:=oQ;go_wp2;go_roundw
    case rel=>
     refine⟨i+1,eb,oQ,oQ,by first|rfl|trivial,ag (λj Z=>?_)⟩;by_cases e1:j=i
     ·subst e1;exact I
     exact G j oQ
    case measure=>exact ew
   |false=>?_
   have E:=ag (Fs D I);exact iN E
  have F:¬(i:Int)<e.size:=oQ;obtain rfl:i=e.size:=oQ;have E:=ag (show j3 e=decide (0<e.size)by
   by_cases J:e.size<1
   ·rw[yQ (inl J)];exact(fB oQ).symm
   rw[JM J oQ G];exact(gf oQ).symm)
  exact iN E
theorem G0 w r:
 Calls prog 149 #[agg (vk r)] w λx w'=>x=returned (bool (pG r))/\Kp bA w w':=by
 have⟨kd,ev,a⟩:=r;have E:=ag (show Kp bA w (w.alloc (cells #[int i64 kd,string ev,int i64 a] 79))from(Kp.refl _ _).alloc _);unfold vk;by_cases I:kd=1
 ·subst I;have X:=ag (JY (w.alloc (cells #[int i64 1,string ev,int i64 a] 79)) ev);have D:=ag (show pG ⟨1,ev,a⟩=(j3 ev&&decide (-1<=a))from rfl);generalize j3 ev=Y at*;go_in;go_wp;refine cF X ?_;cases Y<;>(exact qR D E)
 have ab:(kd==1)=false:=cX I;by_cases O:ev=⟨#[]⟩
 ·subst O;have D:=ag (show pG ⟨kd,⟨#[]⟩,a⟩=((decide (kd=2)&&decide (a=0))||(decide (kd=3)&&decide (-1<=a))||(decide (kd=4)&&decide (0<=a)))by
   unfold pG;rw[ax I];split
   ·rename_i h;subst h;simp;intro _;rfl
   rename_i Z;split
   ·rename_i h;subst h;simp;intro _;rfl
   rename_i h3;split
   ·rename_i h;subst h;simp;intro _;rfl
   rename_i h4;simp[Z,h3,h4])
  generalize pG ⟨kd,⟨#[]⟩,a⟩=rq at*;have hk:kd=2\/kd=3\/kd=4\/(kd==2)=false/\(kd==3)=false/\(kd==4)=false:=il;have fin:∀b:Bool,rq=b->Hid (rq=b):=λ_ h=>ag h;rcases hk with rfl|rfl|rfl|⟨Q,R,U⟩
  ·by_cases G:a=0
   ·subst G;have F:=fin true (by rw[D];rfl);go_in;exact qR F E
   have ad:(a==0)=false:=cX G;have F:=fin false (by rw[D];simp[G]);go_in;exact qR F E
  ·by_cases G: -1<=a
   ·have F:=fin true (by rw[D];simp[G]);go_in;exact qR F E
   have F:=fin false (by rw[D];simp;omega);go_in;exact qR F E
  ·have F:=ag (D.trans (show _=decide (0<=a)by simp));go_in;exact qR F E
  have F:=fin false (by rw[D];simp at Q R U;simp[Q,R,U]);go_in;exact qR F E
 have aa:=wN O;have F:=ag (show pG ⟨kd,ev,a⟩=false by
  have J:¬ev.size=0:=λz=>O (by apply lZ;exact v7 z);unfold pG;simp[I,J])
 go_in;exact qR F E
theorem U4 w{p}{ol}{x}{all}{log}{av}(h:kL w p ol x all log av)u r:
 Calls prog 104 #[pointer (some ⟨p.yb,0,none⟩),int i64 u,agg (vk r)] w λy w'=>y=returned (int i64 (rK x u r).2)/\lI w w' p ol av (rK x u r).1 all log:=by
 have⟨dq,SC,DS⟩:=Oz;have K1:=kG w (cells (vk r) 79);have I:=ak w (cells (vk r) 79);have U:=h.aw K1;have O:=h.low;have rI:=Nc r;have x3:(w.alloc (cells (vk r) 79)).cell? _=some (slice (some ⟨p.gb,0,none⟩) x.ai.length x.ai.length):=U.cell 3;have KS:=K1.mono (S':=C3 p av) gM;by_cases hc:0<=u/\u<(x.ai.length:Int)
 ·obtain⟨n,rfl⟩:∃n:Nat,u=(n:Int):=⟨u.toNat,oQ⟩
  have aa:=hc.2;obtain⟨t,hu⟩:∃t,x.ai[n]? =some t:=⟨_,au oQ⟩
  have HU:=ag (show rK x (n:Int) r=if t.kind≠0 then(x,11)else if pG r then(aD x n (sT r),0)else(x,12)by unfold rK;rw[CZ hu];rfl);have c0:(w.alloc (cells (vk r) 79)).cell? ⟨p.gb,n*14,none⟩=some _:=U.fG hu (j:=0) oQ;generalize rK x (n:Int) r=SS at*;have F:=bw U KS;by_cases q:t.kind=0
  ·rw[q]at c0;have ER:=ag (G0 (w.alloc (cells (vk r) 79)) r);have HV:=ag (HU.trans (ax (λz=>z q)));have hb:pG r=true->prog.built 236 [(0,bool true),(1,agg (vk r))]=some (jH ol (sT r)).toArray:=λhr=>by
    have hk:(r.kind !=0)=true:=by rcases zZ hr with e|e|e|e<;>rw[e]<;>rfl
    have e1:jH ol (sT r)=[bool true,int i64 r.kind,string r.events,int i64 r.at_]++(jH ol iC).drop 4:=by
     have hd:kK (sT r)=0:=by unfold kK sT iC;simp
     unfold jH;rw[hd,show((sT r).kind !=0)=true from hk];rfl
    rw[e1];exact U3 ol r
   have HB:=ag hb;have Q:∀W,kL W p ol x all log av->kL (W.setRow p.gb (putAt (gG ol x.ai).toArray (n*14) (jH ol (sT r)))) p ol (aD x n (sT r)) all log av:=λW hW=>
    hW.acC (t':=sT r) hu 0 (jH ol (sT r)) (aC _) (by rw[List.take_zero,kT,dA (by rw[mh,mh];exact aC _),iz])
   have RV:n*14+(jH ol (sT r)).length<=(gG ol x.ai).toArray.size:=by rw[kL.Yi,mh];omega
   have sI:_=some (jH ol (sT r)).length:=pJ;have sO:=uH ol (sT r);have ad:∀W,kL W p ol x all log av->W.heap[p.gb]? =some (cells (gG ol x.ai).toArray 236 (0,0)):=λW hW=>hW.JV;generalize (gG ol x.ai).toArray=R at*;generalize jH ol (sT r)=TL at*;have HP:=bw Q ad;generalize pG r=rq at*;generalize vk r=E at*;go_in;go_upto_region 1 with fail;generalize w.alloc (cells E 79)=w1 at*;go_wp2_with (refine gV I SC DS rI ?_);refine b9 ER ?_;intro J Z;have h3:=F.1.aw Z;have KA:=F.2.trans' Z gM;have oM:=Z.at_ I (λx=>x);have y3:J.cell? _=some (slice (some ⟨p.gb,0,none⟩) x.ai.length x.ai.length):=h3.cell 3;cases rq with
   |false=>
    have G:=ag (HV.trans (ax dy));have HK:=bw h3 KA;exact qR G (lI.of HK.1 HK.2)
   |true=>?_
   have G:=ag (HV.trans (aq rfl));have D:J.drew.cell? ⟨p.yb,3,none⟩=some (slice (some ⟨p.gb,0,none⟩) x.ai.length x.ai.length)/\J.drew.heap[w.heap.size]? =some (cells E 79 (0,0)):=⟨y3,oM⟩
   have h4:=h3.aw ((Kp.refl _ _).drewN 1);have ab:=HP.2 J.drew h4;have Y:=bw (HP.1 J.drew h4) ((KA.drewN 1).setRow (λ_=>inr (inl rfl)) (putAt R (n*14) TL));have X:=ag (HB rfl);go_upto_region 8 with fail;refine aY (λw'=>w'.cell? ⟨p.yb,3,none⟩=some (slice (some ⟨p.gb,0,none⟩) x.ai.length x.ai.length)/\w'.heap[w.heap.size]? =some (cells E 79 (0,0))) bZ ?_;refine bR 0 31 (pointer (some ⟨p.yb,0,none⟩)) D ?_;refine bR 1 32 (pointer (some ⟨p.yb,0,none⟩)) D ?_;refine bR 2 33 (pointer (some ⟨p.yb,3,none⟩)) D ?_;refine fh 3 34 (slice (some ⟨p.gb,0,none⟩) x.ai.length x.ai.length) rfl (λw' hS=>by simp[execOp,Act.eval,go_sem,hS.1]) D ?_;refine bR 4 35 (int i64 n) D ?_;refine fh 5 36 (agg E) rfl (λw' hS=>dR 79 (tmp 5) rfl w.heap.size rfl 79 E (0,0) dq hS.2 SC DS rI) D ?_;refine fh 6 37 (agg TL.toArray) rfl (λw' _=>eU 236 #[(0,.const (bool true)),(1,.tmp 36)] rfl TL.toArray [(0,bool true),(1,agg E)] rfl X) D ?_;refine fh 7 38 (pointer (some ⟨p.gb,n*14,none⟩)) rfl (λw' _=>by simp[execOp,Act.eval,go_sem,aa]) D ?_;have CO:(J.drew.setRow p.gb (putAt R (n*14) TL)).cell? ⟨p.yb,3,none⟩=some (slice (some ⟨p.gb,0,none⟩) x.ai.length x.ai.length)/\(J.drew.setRow p.gb (putAt R (n*14) TL)).heap[w.heap.size]? =some (cells E 79 (0,0)):=by
    refine⟨?_,by rw[cN _ _ _ _ (by have:=O p.gb (inr (inl rfl));omega)];exact D.2⟩;rw[Y.1.cell 3];simp[KH,aD]
   refine ym 8 bZ rfl rfl (oO 236 (tmp 38) (tmp 37) rfl p.gb (n*14) TL rfl rfl 236 R ab sI RV sO ⟨CO,?_⟩);refine bG bZ (bH ?_) _;simp only[Act.put];exact qR G (lI.of Y.1 Y.2)
  have e0:(t.kind !=0)=true:=cX q;rw[e0]at c0;have G:=ag (HU.trans (aq q));generalize vk r=E at*;go_in;go_upto_region 1 with fail;generalize w.alloc (cells E 79)=w1 at*;exact qR G (lI.of F.1 F.2)
 have G:=ag (show rK x u r=(x,10)by
  have Ev:ub x u=none:=by
   unfold ub;split
   ·rw[List.getElem?_eq_none_iff];omega
   rfl
  unfold rK;rw[Ev])
 generalize rK x u r=SS at*;have F:=bw U KS;generalize vk r=E at*;go_in;go_upto_region 1 with fail;generalize w.alloc (cells E 79)=w1 at*;by_cases q:u<0
 ·exact qR G (lI.of F.1 F.2)
 have q2:(x.ai.length:Int)<=u:=oQ;exact qR G (lI.of F.1 F.2)
namespace Ch
def yU(m:Nat)(t:Tk):Bool:=(t.kind !=0)&&decide (0<kK t)&&decide (t.kind<=2)&&decide (t.cD<m)
theorem SI.kinds{ol x all log}(h:SI ol x all log){i:Nat}{t}(E:x.ai[i]? =some t)(D:t.kind≠0):t.kind=1\/t.kind=2\/t.kind=3\/t.kind=4:=zZ ((h.tk i t E).rq D)
theorem SI.low{ol x all log}(h:SI ol x all log){i:Nat}{m}{t}(E:x.ai[i]? =some t):yU m t=true↔t.drawn=true/\t.cD<m:=by
 unfold yU kK;simp only[fQ,lV,bne_iff_ne];constructor
 ·grind
 rintro⟨D,F⟩;have:=((h.tk i t E).dr D).1;grind
theorem SI.first{ol x all log}(h:SI ol x all log){u:Nat}{k}(hu:x.ai[u]? =some k)(E:k.drawn=true):(∀(i:Nat) t,x.ai[i]? =some t->yU k.cD t=false)↔k.cD=x.turn:=by
 have hk:=((h.tk u k hu).dr E).2;constructor
 ·intro G;have⟨i,t,D,dt,e⟩:=h.cov x.turn (aC _) oQ;have:=G i t D;rcases j5 t.cD k.cD with q|q
  ·rw[(h.low D).2 ⟨dt,q⟩]at this;simp_all
  omega
 intro e i t D;rw[Bool.eq_false_iff];intro F;have⟨dt,q⟩:=(h.low D).1 F;have:=((h.tk i t D).dr dt).2.1;omega
end Ch
theorem C5 w{p}{ol}{x}{all}{log}{av}(h:kL w p ol x all log av){u:Nat}{k}(hu:x.ai[u]? =some k)(hk:k.kind=1\/k.kind=2)(hd:k.drawn=false)(hf:k.ay=0)(ht:x.bj<=1000000000000):
 Calls prog 209 #[pointer (some ⟨p.yb,0,none⟩),int i64 u] w λy w'=>y=returned (bool false)/\lI w w' p ol av (pU x u k) all log:=by
 have I:=(aM.1 hu).1;have O:(u:Int)<x.ai.length:=oQ;have Q:k.kind≠3:=oQ;have e0:kK k=0:=by unfold kK;rw[ax Q,hd];rfl
 have c3:w.cell? _=some (slice (some ⟨p.gb,0,none⟩) x.ai.length x.ai.length):=h.cell 3;have d4:w.cell? ⟨p.gb,u*14+4,none⟩=some (int i64 0):=(h.fG hu oQ).trans (by show some (Value.int i64 (kK k:Nat))=_;rw[e0];rfl);have f4:=h.sn (u*14+4);have e1:jH ol {k with drawn:=true}=(jH ol k).set 4 (int i64 1):=by
  have:kK {k with drawn:=true}=1:=by unfold kK;simp[Q,hf]
  unfold jH;rw[this];rfl
 have D:=h.Rw hu 4 oQ (int i64 1) e1;have R:Kp _ _ (w.setCell ⟨p.gb,u*14+4,none⟩ (int i64 1)):=(Kp.refl (C3 p av) w).setCell (p:=⟨p.gb,u*14+4,none⟩) (λ_=>inr (inl rfl)) _;have F:(aD x u {k with drawn:=true}).ai[u]? =some {k with drawn:=true}:=by simp[aD,I]
 have X:(w.setCell ⟨p.gb,u*14+4,none⟩ (int i64 1)).cell? ⟨p.yb,3,none⟩=some (slice (some ⟨p.gb,0,none⟩) x.ai.length x.ai.length):=by rw[D.cell 3];simp[KH,aD]
 have Y:(w.setCell ⟨p.gb,u*14+4,none⟩ (int i64 1)).cell? _=some (int i64 x.bj):=D.cell 4;have d5:(w.setCell ⟨p.gb,u*14+4,none⟩ (int i64 1)).cell? ⟨p.gb,u*14+5,none⟩=some (int i64 k.cD):=D.fG F oQ;have f5:=D.sn (u*14+5);have E:=D.Rw F (t':={k with drawn:=true,cD:=x.bj}) 5 oQ (int i64 x.bj) rfl;have G:=R.setCell (p:=⟨p.gb,u*14+5,none⟩) (λ_=>inr (inl rfl)) (int i64 x.bj);have H:=bw E G;go_in;go_upto_region 3 with fail;generalize w.setCell ⟨p.gb,u*14+4,none⟩ (int i64 1)=w1 at*;go_region;have E:=H.1.aw (Kp.refl _ _).drew;have G:=H.2.drew;generalize (w1.setCell ⟨p.gb,u*14+5,none⟩ (int i64 x.bj)).drew=w2 at*;have c4:w2.cell? _=some (int i64 x.bj):=E.cell 4;have f4:=E.free 4;have Z:=E.CS (log':=log) (k':=x.bj+1) 4 (int i64 ((x.bj:Int)+1)) rfl;have U:=G.setCell (p:=⟨p.yb,4,none⟩) (λ_=>inl rfl) (int i64 ((x.bj:Int)+1));have J:=bw (Z.eqv (x':=pU x u k) (by simp[pU,aD]) rfl) U;exact iN (lI.of J.1 J.2)
theorem uI w{p}{ol}{x}{all}{log}{av}(h:kL w p ol x all log av)(U:SI ol x all log){u:Nat}{k}(hu:x.ai[u]? =some k)(X:k.drawn=true):
 Calls prog 209 #[pointer (some ⟨p.yb,0,none⟩),int i64 u] w λy w'=>y=returned (bool (decide (k.cD=x.turn)))/\Kp bA w w':=by
 have⟨dw,Y,GZ⟩:=JW;have h6:=U.len;have am:=(aM.1 hu).1;have ao:(u:Int)<x.ai.length:=oQ;have hk:=((U.tk u k hu).dr X).1;have e0:kK k=k.ay+1:=by unfold kK;rw[ax oQ,X];rfl
 have c3:w.cell? _=some (slice (some ⟨p.gb,0,none⟩) x.ai.length x.ai.length):=h.cell 3;have d4:w.cell? ⟨p.gb,u*14+4,none⟩=some (int i64 ((k.ay:Int)+1)):=(h.fG hu oQ).trans (by show some (Value.int i64 (kK k:Nat))=_;rw[e0];rfl);have e4:((k.ay:Int)+1==0)=false:=il;have d5:w.cell? ⟨p.gb,u*14+5,none⟩=some _:=h.fG hu oQ;have HF:=ag (U.first hu X);have H:=ag h;go_in;go_wp;go_loopw [5] (λi wr=>∃n:Nat,i= int i64 n/\n<=x.ai.length/\Hid (∀j t,j<n->x.ai[j]? =some t->yU k.cD t=false)/\Kp bA w wr) (λi _=>x.ai.length-(intOf i).toNat)
 case atStart=>exact⟨0,rfl,aA _,ag (λj _ hj=>oQ),Kp.refl _ _⟩
 case round=>
  obtain⟨n,rfl,hn,HN,O⟩:=hrel;have ab:=O.bN c3;by_cases Z:n<x.ai.length
  ·have R:(n:Int)<x.ai.length:=oQ;obtain⟨t,J⟩:∃t,x.ai[n]? =some t:=⟨_,au Z⟩
   have hc:=(H.aw O).C4 J;have G:=ak wr (cells nw 236);have D:=an (wr.alloc (cells nw 236)) wr.heap.size nw (jH ol t).toArray 236 (0,0) G;have K2:=rQ wr (cells nw 236) (jH ol t).toArray;have I:(jH ol t).toArray.all (λx=>x.oneCell')=_:=gH.2 (λu hu=>uH ol t u (cX hu));have HT:=ag J;go_upto_region 10 with(first|refine bS rfl 236 (tmp 55) rfl p.gb (n*14) rfl (jH ol t) dw hc Y GZ pJ ?_|refine bJ (jH ol t).toArray G pJ rfl I ?_);have F:=O.trans K2;generalize (wr.alloc (cells nw 236)).setRow wr.heap.size (jH ol t).toArray=Q at*;generalize wr.heap.size=nb at*;have b0:Q.cell? ⟨nb,0,none⟩=some (bool (t.kind !=0)):=dG D rfl;have b1:Q.cell? ⟨nb,1,none⟩=some (int i64 t.kind):=dG D rfl;have b4:Q.cell? ⟨nb,4,none⟩=some (int i64 (kK t)):=dG D rfl;have b5:Q.cell? ⟨nb,5,none⟩=some (int i64 t.cD):=dG D rfl;have ad:=F.bN c3;have aj:=F.bN d5;simp only[Act.put];go_cut [82]from 57 to 82 (λv wx=>v= bool (yU k.cD t)/\Kp bA w wx)
   case first=>
    by_cases q0:t.kind=0
    ·have E:=ag (show yU k.cD t=false by unfold yU;rw[q0];rfl);rw[q0]at b0;go_quiet (fail);go_wp2;go_meet;exact⟨by rw[E],F.drewN _⟩
    have g0:(t.kind !=0)=true:=cX q0;rw[g0]at b0;by_cases q1:0<kK t
    ·have aa:(0:Int)<(kK t:Int):=oQ;by_cases q2:t.kind<=2
     ·have E:=ag (show yU k.cD t=decide (t.cD<k.cD)by
       unfold yU;rw[g0,gf q1,gf q2];simp)
      go_quiet (fail);go_wp2;go_meet;exact⟨by rw[E],F.drewN _⟩
     have E:=ag (show yU k.cD t=false by unfold yU;rw[fB q2];simp);go_quiet (fail);go_wp2;go_meet;exact⟨by rw[E],F.drewN _⟩
    have aa:¬(0:Int)<(kK t:Int):=oQ;have E:=ag (show yU k.cD t=false by unfold yU;rw[fB q1];simp);go_quiet (fail);go_wp2;go_meet;exact⟨by rw[E],F.drewN _⟩
   case rest=>
    obtain⟨rfl,F⟩:=hcut;cases hp:yU k.cD t with
    |true=>
     have E:=ag (show decide (k.cD=x.turn)=false from fB (λe=>by have:=HF.2 e n t HT;rw[hp]at this;cases this));go_wp2;go_ret;exact⟨by rw[E];rfl,F⟩
    |false=>?_
    have E:=ag hp;go_wp2;go_roundw
    case rel=>
     refine⟨n+1,eb,oQ,ag (λj t' hj ht'=>?_),F⟩;by_cases e:j=n
     ·subst e;have:=ht'.symm.trans HT;simp at this;subst this;exact E
     exact HN j t' oQ ht'
    case measure=>exact ew
  have R:¬(n:Int)<x.ai.length:=oQ;obtain rfl:n=x.ai.length:=oQ;have E:=ag (show decide (k.cD=x.turn)=true from gf (HF.1 (λi t J=>HN i t (aM.1 J).1 J)));go_wp2;go_ret;exact⟨by rw[E];rfl,O⟩
theorem C6 w{p}{ol}{x}{all}{log}{av}(h:kL w p ol x all log av)s o(hl:all.length<=1000000000000)(Nm:log.size<=8000000000000000000)(ho:o.size<=10000000000):
 Calls prog 210 #[pointer (some ⟨p.yb,0,none⟩),agg (cM (bX ol.ah s)),string o] w λy w'=>y=returned (tuple #[])/\lI w w' p ol av x (all++[s]) (log++o):=by
 have⟨i0,hi0,hz0,hz1,hz2⟩:=cr U1;have⟨da,jx,dQ⟩:=kz;have aa:=h.low;have K0:=kG w (cells (cM (bX ol.ah s)) 26);have RU:=ak w (cells (cM (bX ol.ah s)) 26);have hW:=h.aw K0;have ad:Bk ol (all++[s])=Bk ol all++pD (bX ol.ah s):=by simp[Bk]
 obtain⟨J,D,rfl⟩:=bp hW.row;generalize bX ol.ah s=b at*;go_in;go_upto_region 1 with fail;generalize w.alloc (cells (cM b) 26)=F at*;have E:F.drew.heap[w.heap.size]? =_:=RU;refine aY (λw'=>w'.heap[w.heap.size]? =some (cells (cM b) 26 (0,0))) bZ ?_;refine bR 0 6 (pointer (some ⟨p.yb,0,none⟩)) E ?_;refine bR 1 7 (pointer (some ⟨p.yb,0,none⟩)) E ?_;refine bR 2 8 (pointer (some ⟨p.yb,0,none⟩)) E ?_;refine bR 3 9 (pointer (some ⟨p.yb,1,none⟩)) E ?_;refine fh 5 11 (agg (cM b)) rfl (λw' hS=>dR 26 (tmp 4) rfl w.heap.size rfl 26 (cM b) (0,0) da hS jx dQ bF) E ?_;have KA:Kp bA F (F.drew.alloc (cells (cM b) 26)):=((Kp.refl _ _).drewN 1).alloc _;have G:=hW.aw KA;have Z:=KA.at_ RU (λx=>x);have x1:F.drew.cell? _=some (slice J all.length D):=hW.cell 1;have y1:(F.alloc (cells (cM b) 26)).drew.cell? _=some (slice J all.length D):=G.cell 1
 refine D_ 4 6 10 12 (slice J all.length D) (slice (some ⟨F.drew.heap.size,0,none⟩) 1 1) (F.drew.alloc (cells (cM b) 26)) aV bZ bZ bZ rfl rfl rfl rfl rfl rfl (by simp[execOp,Act.eval,go_sem,x1])
  (gw 67 (tmp 11) rfl 26 i0 (agg cG) underlying67 hi0 hz0 oQ oQ (cM b) rfl (by rw[hz1];rfl))
  (gw 67 (tmp 11) rfl 26 i0 (agg cG) underlying67 hi0 hz0 oQ oQ (cM b) rfl (by rw[hz1];rfl))
  (by simp[execOp,Act.eval,go_sem,y1]) E Z ?_
 simp only[Act.put,pA,pB,pC];have vh:=ak F.drew (cells (cM b) 26);have aj:∀j u,(pD b)[j]? =some u->(F.drew.alloc (cells (cM b) 26)).cell? ((⟨F.drew.heap.size,0,none⟩:Addr).add j)=some u:=by
  intro j u hj;rw[wD,World.cell?,vh];show(pD b).toArray[j]? =some u;rw[gX];exact hj
 refine pf 7 ?_;refine Rv (tmp 10) (tmp 12) 67 rfl 0 26 i0 (agg cG) 6 72 underlying67 hi0 hz0 hz1 hz2 rfl aV _ _ _ rfl G.row ⟨F.drew.heap.size,0,none⟩ 1 1 (pD b) rfl rfl aj (by intro u hu;simp[pD]at hu;rcases hu with rfl|rfl|rfl|rfl|rfl|rfl<;>rfl) aV ?c3 ?c4 (aA _) ?_
 case c3=>unfold maxLen;omega
 case c4=>omega
 intro O Y Q o8 g8 n8;have U:Kp (λk=>(Value.slice J all.length D).ownBlock=some k) _ _:=(Kp.refl _ _).grown g8 (λk hk _=>hk);have R:=U.at_ G.cj G.ne.2.1;have ap:=U.at_ G.JV G.ne.2.2;have ab:=G.ch.pO U (λi cur T hi _ hT s=>G.apart i cur T hi hT (inr (inr s)));have I:=U.at_ Z (λe=>by have:=aa _ (inr (inr e));omega);have aI:p.yb≠w.heap.size:=by have:=aa _ (inl rfl);omega
 refine⟨I,?_⟩;refine iU 8 14 (pointer (some ⟨p.yb,0,none⟩)) rfl (λw' _=>by simp[execOp,Act.eval,go_sem,Act.put]) I ?_;refine iU 9 15 (pointer (some ⟨p.yb,1,none⟩)) rfl (λw' _=>by simp[execOp,Act.eval,go_sem,Act.put]) I ?_;have aO:Q.cell? ⟨p.yb,1,none⟩=some (slice J all.length D):=dG R rfl;have aS:Q.frozen? ⟨p.yb,1,none⟩=false:=by simp[World.frozen?,R]
 have X:Kp _ _ (Q.setCell ⟨p.yb,1,none⟩ (slice (some ⟨O,0,none⟩) (all.length+1) Y)):=(Kp.refl (λk=>k=p.yb) Q).setCell (p:=⟨p.yb,1,none⟩) (λ_=>rfl) _;have am:=X.at_ I aI.symm;have K9:Kp (C3 p (slice J all.length D)) _ _:=(((K0.trans KA).mono gM).trans' U (λi _ x=>inr (inr x))).trans' X (λi _ x=>inl x);have h9:kL (Q.setCell ⟨p.yb,1,none⟩ (slice (some ⟨O,0,none⟩) (all.length+1) Y)) p ol x (all++[s]) log (slice (some ⟨O,0,none⟩) (all.length+1) Y):=by
  refine⟨by rw[ar _ R];rfl,?_,X.at_ ap G.ne.1.symm,ab.pO X (λi cur T hi _ hT s=>?_),G.rf⟩
  ·have:=X.owns o8 (λi e x=>aZ o8 R aV (by rw[<-x];exact e));rw[ad];simpa using this
  subst s;rw[R]at hi;simp only[bE,eH]at hi;rw[<-hi.2.1]at hT;revert hT;decide
 have n9:∀k,(Value.slice (some ⟨O,0,none⟩) (all.length+1) Y).ownBlock=some k->(Value.slice J all.length D).ownBlock=some k\/w.heap.size<=k:=by
  intro k e;obtain rfl:O=k:=by simpa[Value.ownBlock]using e
  exact n8.imp id (bz (K0.trans KA).size)
 refine pf 10 ?_;unfold Oper.wp;simp only[execOp,Act.eval,Act.put];simp[go_sem,aO,aS];refine⟨am,?_⟩;refine bG bZ (bH ?_) _;generalize Q.setCell ⟨p.yb,1,none⟩ (slice (some ⟨O,0,none⟩) (all.length+1) Y)=w9 at*;have z2:w9.cell? _=some (string log):=h9.cell 2;have zf:=h9.free 2;have hF:=h9.CS (log':=log++o) 2 (string (log++o)) (k':=x.bj) rfl;have KF:=K9.setCell (p:=⟨p.yb,2,none⟩) (λ_=>inl rfl) (string (log++o));have HZ:=c_ hF n9 KF;go_wp2;go_end0
 exact⟨rfl,_,HZ⟩
def Dm(w w':World)(p:Rl)(ol:Ol)(av:Value)(x:Sv)(all:List Sd)(log:ByteArray)(u:Nat)(y:Ending):Prop:=∃X D log',y=returned (tuple #[agg (bU (cW ol x u).2.1),bool (cW ol x u).2.2.1])/\(cW ol x u).2.2.2=0/\lI w w' p ol av X D log'/\SI ol (cW ol x u).1 D log'/\(cW ol x u).1.bj=X.bj/\
 (cW ol x u).1.ai=(if(cW ol x u).2.2.1 then X.ai.set u iC else X.ai)/\D.length<=all.length+1/\log'.size<=log.size+6000000/\(cW ol x u).1.bj<=x.bj+1/\((cW ol x u).2.2.1=false->(cW ol x u).2.1=eY)/\X.ai.length=x.ai.length
theorem Dm.of{w w':World}{p:Rl}{ol:Ol}{av:Value}{x X:Sv}{all D:List Sd}{log log':ByteArray}{u:Nat}{y:Ending}{x':Sv}{E:Rp}{d:Bool}(e:cW ol x u=(x',E,d,0))(U:y=returned (tuple #[agg (bU E),bool d]))(q:lI w w' p ol av X D log')
 (R:SI ol x' D log') (F:x'.bj=X.bj) (G:x'.ai=(if d then X.ai.set u iC else X.ai)) (I:D.length<=all.length+1) (J:log'.size<=log.size+6000000) (O:x'.bj<=x.bj+1) (Q:d=false->E=eY:=by intro h;first|rfl|cases h) (h7:X.ai.length=x.ai.length:=by first|rfl|simp[pU,aD]):Dm w w' p ol av x all log u y:=by
 unfold Dm;rw[e];exact⟨X,D,log',U,rfl,q,R,F,G,I,J,O,Q,h7⟩
theorem kL.rJ{w p ol x all log av}(h:kL w p ol x all log av){b}{c}{T}(hb:w.heap[b]? =some (cells c T (0,0)))(F:¬C3 p av b)(E:¬He T)D:kL (w.setRow b D) p ol x all log av:=
 h.aB ((Kp.refl (λk=>k=b) w).setRow (λ_=>rfl) _) (λk s e=>F (by rw[<-e];exact s)) (λi cur T' hi hT' e=>by subst e;rw[hb]at hi;simp only[bE,eH]at hi;exact E (by rw[hi.2.1];exact hT'))
theorem lI.eV{w w' E p ol av x' D log'}(K:Kp bA w w')(G:∀k,C3 p av k->k<w.heap.size)(q:lI w' E p ol av x' D log'){c}(I:E.heap[w.heap.size]? =some (cells c 64 (0,0)))F:lI w (E.setRow w.heap.size F) p ol av x' D log':=by
 have⟨z9,h',n',K'⟩:=q;refine⟨z9,h'.rJ I ?_ (by unfold He;decide) F,λk e=>(n' k e).imp id (bz K.size),((K.mono gM).trans' K' (λ_ _ s=>s)).setRow (λx=>oQ) F⟩;rintro(e|e|e)
 ·have:=G _ (inl rfl);omega
 ·have:=G _ (inr (inl rfl));omega
 exact aZ h'.row I aV e
theorem lI.zero{w w' p ol av b x' D log'}(q:lI w w' p ol av x' D log')(E:∀k,C3 p av k->k<b){o}(F:w.heap[b]? =some o):w'.heap[b]? =some o:=by
 have⟨z9,h',n',K'⟩:=q;exact K'.at_ F (λs=>by have:=E b s;omega)
theorem Ch.Good.wtr{ol s}(g:Ch.Good ol s):Kw ol (bX ol.ah s) s:=⟨rfl,g.inv,g.ok,Ch.TL.mono aV _ (aC _) g.tl.1,g.tl.2⟩
theorem Nn w{p}{ol}{x}{all}{log}{av}(h:kL w p ol x all log av)(U:SI ol x all log)(a:Nat)(hl:all.length<=1000000000000)(Nm:log.size<=8000000000000000000):
 Calls prog 151 #[pointer (some ⟨p.yb,0,none⟩),int i64 a] w λy w'=>y=returned (agg (bU (pR x a)))/\Kp bA w w':=by
 have⟨dr,hdr,fX⟩:=o0;have K1:=kG w (cells aU 64);have F:=ak w (cells aU 64);have Q:=h.aw K1;have c2:(w.alloc (cells aU 64)).cell? _=some (string log):=Q.cell 2;have R:=ag (U.acB (a:=(a:Int)) oQ);generalize pR x (a:Int)=I at*;clear U h;have bad:∀e:Int,I=Aw all.length e->Hid (Calls prog 208 #[pointer (some ⟨p.yb,0,none⟩),int i64 e] (w.alloc (cells aU 64)) λy w'=>y=returned (agg (bU I))/\Kp bA (w.alloc (cells aU 64)) w'):=λe he=>ag (by rw[he];exact yT _ Q e hl);by_cases q1:(log.size:Int)<a
 ·have E:=bad 14 (by rcases R with⟨_,e⟩|⟨c,_⟩|⟨c,_⟩;exact e;omega;omega);clear R bad;go_in;go_upto_region 1 with fail;generalize w.alloc (cells aU 64)=w1 at*;go_wp;refine b9 E ?_;intro w2 Y;have J:=Y.at_ F (λx=>x);have G:=an w2 w.heap.size aU (bU I) 64 (0,0) J;have Z:=(K1.trans Y).setRow (g:=w.heap.size) (λx=>oQ) (bU I);clear E;go_wp2_with (refine bJ (bU I) J bh rfl (du _) ?_);refine uY G hdr fX bh ?_;exact⟨rfl,Z⟩
 by_cases q2:(a:Int)<(log.size:Int)-24
 ·have E:=bad 15 (by rcases R with⟨c,_⟩|⟨_,e⟩|⟨_,c,_⟩;omega;exact e;omega);clear R bad;go_in;go_upto_region 1 with fail;generalize w.alloc (cells aU 64)=w1 at*;go_wp;refine b9 E ?_;intro w2 Y;have J:=Y.at_ F (λx=>x);have G:=an w2 w.heap.size aU (bU I) 64 (0,0) J;have Z:=(K1.trans Y).setRow (g:=w.heap.size) (λx=>oQ) (bU I);clear E;go_wp2_with (refine bJ (bU I) J bh rfl (du _) ?_);refine uY G hdr fX bh ?_;exact⟨rfl,Z⟩
 obtain⟨e,he⟩:∃e:Nat,(e:Int)=if(a:Int)+8<(log.size:Int)then(a:Int)+8 else(log.size:Int):=⟨(if(a:Int)+8<(log.size:Int)then(a:Int)+8 else(log.size:Int)).toNat,by split<;>omega⟩
 have HE:=ag (show I={eY with mY:=(all.length:Int)-1,next:=(e:Int),text:=log.extract a e}by
  rcases R with⟨c,_⟩|⟨c,_⟩|⟨_,_,h⟩
  ·omega
  ·omega
  rw[h,<-he];rfl)
 have aj:e<=log.size:=by split at he<;>omega
 have ad:a<=e:=by split at he<;>omega
 have X:=ag he;have c1:_=some av:=Q.cell 1;obtain⟨ao,O,rfl⟩:=bp Q.row;have hw:IntKind.i64.wrap ((all.length:Int)-1)=(all.length:Int)-1:=by rw[nX];omega
 have aa:w.heap.size≠p.yb:=by have:=aR Q.cj;intro e;have h:=Q.cj;rw[<-e,F]at h;simp at h
 clear R bad Q he;go_in;go_upto_region 1 with fail;generalize w.alloc (cells aU 64)=w1 at*;go_upto_if 27 with(fail)
 go_cut [6,27]from 28 to 29 (λv _ wx=>v= int i64 e/\wx=w1)
 case first=>
  by_cases q3:(8:Int)<(log.size:Int)-(a:Int)
  ·have H3:=ag (X.trans (aq oQ));go_wp2;go_meet;exact⟨by rw[H3],rfl⟩
  have H3:=ag (X.trans (ax oQ));go_wp2;go_meet;exact⟨by rw[H3],rfl⟩
 case rest=>
  obtain⟨rfl,rfl⟩:=hcut;have Z:Kp _ _ (wc.drew.setRow w.heap.size (bU I)):=K1.drew.setRow (λx=>oQ) _;have G:=an wc.drew w.heap.size aU (bU I) 64 (0,0) F;go_upto_region 9 with fail;have D:wc.drew.cell? ⟨p.yb,1,none⟩=some (slice ao all.length O)/\wc.drew.cell? ⟨p.yb,2,none⟩=some (string log):=⟨c1,c2⟩
  have ab:(wc.drew.setRow w.heap.size (bU I)).cell? ⟨p.yb,1,none⟩=some (slice ao all.length O)/\(wc.drew.setRow w.heap.size (bU I)).cell? ⟨p.yb,2,none⟩=some (string log):=⟨by rw[<-D.1];exact kO (cN _ _ _ _ aa.symm),by rw[<-D.2];exact kO (cN _ _ _ _ aa.symm)⟩
  refine aY (λw'=>w'.cell? ⟨p.yb,1,none⟩=some (slice ao all.length O)/\w'.cell? ⟨p.yb,2,none⟩=some (string log)) bZ ?_;refine bR 0 30 (pointer (some ⟨p.yb,0,none⟩)) D ?_;refine bR 1 31 (pointer (some ⟨p.yb,0,none⟩)) D ?_;refine bR 2 32 (pointer (some ⟨p.yb,1,none⟩)) D ?_;refine fh 3 33 (slice ao all.length O) rfl (λw' U=>by simp[execOp,Act.eval,go_sem,U.1]) D ?_;refine bR 4 34 (int i64 all.length) D ?_;refine fh 5 35 (int i64 ((all.length:Int)-1)) rfl (λw' _=>by simp[execOp,Act.eval,go_sem,hw]) D ?_;refine bR 6 36 (pointer (some ⟨p.yb,0,none⟩)) D ?_;refine bR 7 37 (pointer (some ⟨p.yb,0,none⟩)) D ?_;refine bR 8 38 (pointer (some ⟨p.yb,2,none⟩)) D ?_;refine fh 9 39 (string log) rfl (λw' U=>by simp[execOp,Act.eval,go_sem,U.2]) D ?_;refine bR 10 40 (int i64 a) D ?_;refine bR 11 41 (int i64 e) D ?_;refine fh 12 42 (string (log.extract a e)) rfl (λw' _=>by simp[execOp,Act.eval,go_sem,aj,ad]) D ?_;refine bR 13 43 (int i64 e) D ?_;refine fh 14 44 (agg (bU I)) rfl (λw' _=>eU 64 #[(1,.tmp 35),(5,.tmp 42),(3,.tmp 43)] rfl (bU I) [(1,int i64 ((all.length:Int)-1)),(5,string (log.extract a e)),(3,int i64 e)] nQ (by rw[HE];kernel_rfl)) D ?_;refine cQ 15 bZ rfl rfl 64 (tmp 4) (tmp 44) rfl rfl w.heap.size (bU I) nQ nQ 64 aU F bh rfl (du _) ab ?_;refine bG bZ (bH ?_) _;go_wp;refine uY G hdr fX bh ?_;exact⟨rfl,Z⟩
theorem No w{p}{ol}{x}{all}{log}{av}{t}(h:kL w p ol x all log av)(R:SI ol x all log)(hR:Fj t ol){u:Nat}{k}(hu:x.ai[u]? =some k)(hk:k.kind=2)(hl:all.length<=950000000000)(Nm:log.size<=5500000000000000000)(ht:x.bj<=1000000000000):
 Calls prog 152 #[pointer (some ⟨p.yb,0,none⟩),int i64 u] w λy w'=>Dm w w' p ol av x all log u y:=by
 have⟨dr,hdr,fX⟩:=o0;have⟨da,jx,dQ⟩:=kz;have O:=h.low;have K1:=kG w (cells aU 64);have F:=ak w (cells aU 64);have h1:=h.aw K1;have hf:=R.Nk hu oQ;cases hd:k.drawn with
 |false=>
  have E:=ag (C5 _ h1 hu (inr hk) hd hf ht);have U:=ag (R.Yg hu (inr hk) hd);go_in;go_upto_region 1 with fail;generalize w.alloc (cells aU 64)=w1 at*;go_wp;refine b9 E ?_;intro J Q2;have I:=Q2.zero O F;have QF:=ag (Q2.eV K1 O I (bU eY));have Q:=an J w.heap.size aU (bU eY) 64 (0,0) I;go_wp2_with (refine bJ (bU eY) I bh rfl (du _) ?_);refine kH Q hdr fX bh ?_;exact Dm.of U.1 rfl QF U.2 rfl rfl oQ oQ (aC _)
 |true=>?_
 have E:=ag (uI _ h1 R hu hd);by_cases Np:k.cD=x.turn
 ·rw[gf Np]at E;have U:=ag (R.acv hR hu hk hd Np);have hg:=R.JU;have hr:=CU (hg.wait hR);have iL:=CT h.rf.ok 17 hr;simp only[kN,eG]at iL;have aI:=R.pos;obtain⟨s,hs⟩:∃s,all[all.length-1]? =some s:=⟨_,au oQ⟩
  have am:gB all=s:=by unfold gB;rw[iO,hs];rfl
  rw[am]at hg hr U iL;have EW:=λW K=>ag (Ao W p.B p.cb p.l p.v ol _ s _ (h.aw K).ch h.rf hg.wtr hg.tl hr);have H:=bw h R;generalize aS:DQ ol s=wt at*;have⟨s',o⟩:=wt;simp only at EW U iL;go_in;go_upto_region 1 with fail;generalize w.alloc (cells aU 64)=w1 at*;go_wp;refine b9 E ?_;intro J Y;have I:=Y.at_ F (λx=>x);have KA:=K1.trans Y;have h2:=h1.aw Y;have c0:J.cell? _=some (pointer (some ⟨p.cb,0,none⟩)):=h2.cell 0;have c1:_=some av:=h2.cell 1;obtain⟨g,ab,rfl,xc⟩:=h2.Nl hs;have ao:∀j u,(pD (bX ol.ah s))[j]? =some u->J.cell? ⟨g,((all.length:Int)-1).toNat*6+j,none⟩=some u:=by
   rw[show((all.length:Int)-1).toNat=all.length-1 by omega];exact xc
  have hw:IntKind.i64.wrap ((all.length:Int)-1)=(all.length:Int)-1:=by rw[nX];omega
  have ad:(1:Int)<=all.length:=oQ;have aj:¬(all.length:Int)<=(all.length:Int)-1:=oQ;have sL:_=some (pD (bX ol.ah s)).length:=bF;have HX:=bw h2 KA;have aa:=λW K=>EW W (KA.trans K);go_upto_region 4 with fail;go_cut [7,8]from 15 to 34 (λq e wx=>∃fb,q= pointer (some ⟨fb,0,none⟩)/\e= string o/\wx.heap[fb]? =some (cells (cM (bX ol.ah s')) 26 (0,0))/\Kp bA J wx)
  case first=>
   have D:Kp bA J _:=(Kp.refl _ _).drew;refine aY (λw'=>Kp bA J w') bZ ?_;refine bR 0 16 (pointer (some ⟨p.yb,0,none⟩)) D ?_;refine bR 1 17 (pointer (some ⟨p.yb,0,none⟩)) D ?_;refine bR 2 18 (pointer (some ⟨p.yb,0,none⟩)) D ?_;refine fh 3 19 (pointer (some ⟨p.cb,0,none⟩)) rfl (λw' R=>by simp[execOp,Act.eval,go_sem,R.bN c0]) D ?_;refine bR 4 20 (pointer (some ⟨p.yb,0,none⟩)) D ?_;refine bR 5 21 (pointer (some ⟨p.yb,0,none⟩)) D ?_;refine bR 6 22 (pointer (some ⟨p.yb,1,none⟩)) D ?_;refine fh 7 23 (slice (some ⟨g,0,none⟩) all.length ab) rfl (λw' R=>by simp[execOp,Act.eval,go_sem,R.bN c1]) D ?_;refine bR 8 24 (pointer (some ⟨p.yb,0,none⟩)) D ?_;refine bR 9 25 (pointer (some ⟨p.yb,0,none⟩)) D ?_;refine bR 10 26 (pointer (some ⟨p.yb,1,none⟩)) D ?_;refine fh 11 27 (slice (some ⟨g,0,none⟩) all.length ab) rfl (λw' R=>by simp[execOp,Act.eval,go_sem,R.bN c1]) D ?_;refine bR 12 28 (int i64 all.length) D ?_;refine fh 13 29 (int i64 ((all.length:Int)-1)) rfl (λw' _=>by simp[execOp,Act.eval,go_sem,hw]) D ?_;refine fh 14 30 (pointer (some ⟨g,((all.length:Int)-1).toNat*6,none⟩)) rfl (λw' _=>by simp[execOp,Act.eval,go_sem,ad,aj]) D ?_;refine fh 15 31 (agg (cM (bX ol.ah s))) rfl (λw' R=>eT 26 (tmp 30) rfl g (((all.length:Int)-1).toNat*6) rfl (pD (bX ol.ah s)) da (λj u hj=>R.bN (ao j u hj)) jx dQ sL) D ?_;refine qZ 16 20 bZ rfl rfl rfl rfl ?_ ?_
   ·refine er (some 32) rfl 147 #[pointer (some ⟨p.cb,0,none⟩),agg (cM (bX ol.ah s))] wX _ (λw'=>Kp bA J.drew w') (aa J.drew D).out ?_;intro w5 X;have G:=D.trans X;have CO:=G.alloc (cells cG 26);have F:=ak w5 (cells cG 26);have Z:=CO.setRow (g:=w5.heap.size) (λx=>by have:=G.size;omega) (cM (bX ol.ah s'));refine⟨G,?_⟩;simp only[Act.put,pA,pB,pC];refine bR 17 15 (tuple #[agg (cM (bX ol.ah s')),string o]) G ?_;refine bR 18 33 (agg (cM (bX ol.ah s'))) G ?_;refine bR 19 34 (string o) G ?_;refine pf 20 ?_;refine gA (some 7) rfl (pointer (some ⟨w5.heap.size,0,none⟩)) (w5.alloc (cells cG 26)) Fv ?_;simp only[Act.put,pA,pB,pC];refine⟨CO,?_⟩;refine cQ 21 bZ rfl rfl 26 (tmp 7) (tmp 33) rfl rfl w5.heap.size (cM (bX ol.ah s')) nQ nQ 26 cG F bF rfl (fK _) Z ?_;refine bR 22 8 (string o) Z ?_;refine bG bZ (bH ?_) _;go_wp2;go_meet;exact⟨w5.heap.size,rfl,rfl,an _ _ _ _ _ _ F,Z⟩
   refine gA (some 7) rfl (pointer (some ⟨J.heap.size,0,none⟩)) (J.drew.alloc (cells cG 26)) Fv ?_;simp only[Act.put,pA,pB,pC];have F:=ak J.drew (cells cG 26);have Dd:=D.alloc (cells cG 26);refine⟨Dd,?_⟩;refine pf 16 ?_;refine er (some 32) rfl 147 #[pointer (some ⟨p.cb,0,none⟩),agg (cM (bX ol.ah s))] wX _ (λw'=>Kp bA (J.drew.alloc (cells cG 26)) w') (aa _ Dd).out ?_;intro w5 X;have G:=Dd.trans X;have kE:=X.at_ (k:=J.heap.size) (by exact F) (λx=>x);have Z:=G.setRow (g:=J.heap.size) (λx=>oQ) (cM (bX ol.ah s'));refine⟨G,?_⟩;simp only[Act.put,pA,pB,pC];refine bR 17 15 (tuple #[agg (cM (bX ol.ah s')),string o]) G ?_;refine bR 18 33 (agg (cM (bX ol.ah s'))) G ?_;refine bR 19 34 (string o) G ?_;refine cQ 21 bZ rfl rfl 26 (tmp 7) (tmp 33) rfl rfl J.heap.size (cM (bX ol.ah s')) nQ nQ 26 cG kE bF rfl (fK _) Z ?_;refine bR 22 8 (string o) Z ?_;refine bG bZ (bH ?_) _;go_wp2;go_meet;exact⟨J.heap.size,rfl,rfl,an _ _ _ _ _ _ kE,Z⟩
  case rest=>
   obtain⟨fb,rfl,rfl,Q,X⟩:=hcut;have KC:=HX.2.trans X;have lM:=X.at_ I (λx=>x);have EJ:=ag (C6 wc (HX.1.aw X) s' o oQ oQ oQ);go_wp2_with (refine gV Q jx dQ (UE _) ?_);refine b9 EJ ?_;intro w6 Q6;have pe:=Q6.zero O lM;have QF:=ag (Q6.eV KC O pe (bU {eY with mY:=(all.length:Int),text:=o}));have JZ:=an w6 w.heap.size aU (bU {eY with mY:=(all.length:Int),text:=o}) 64 (0,0) pe;have⟨av6,h6,_,_⟩:=Q6;have c1:_=some av6:=h6.cell 1;obtain⟨aO,ap,rfl⟩:=bp h6.row;rw[ix,List.length_singleton]at c1;go_wp2_with (refine bJ (bU {eY with mY:=(all.length:Int),text:=o}) pe bh rfl (du _) ?_);refine kH JZ hdr fX bh ?_;exact Dm.of U.1 rfl QF U.2 rfl rfl dy (by rw[jN];omega) (cT _)
 rw[fB Np]at E;have U:=bw (SI.waits (ol:=ol) hu (inr hk) hd Np) R;have HX:=ag h1;go_in;go_upto_region 1 with fail;generalize w.alloc (cells aU 64)=w1 at*;go_wp;refine b9 E ?_;intro J Y;have I:=Y.at_ F (λx=>x);have QF:=ag (lI.eV K1 O (lI.of (HX.aw Y) (Y.mono gM)) I (bU eY));have Q:=an J w.heap.size aU (bU eY) 64 (0,0) I;go_wp2_with (refine bJ (bU eY) I bh rfl (du _) ?_);refine kH Q hdr fX bh ?_;exact Dm.of U.1 rfl QF U.2 rfl rfl oQ oQ (cT _)
theorem U5(n:Nat)a:prog.built 64 [(1,int i64 n),(4,agg (cM a))]=some (bU {eY with mY:=(n:Int),st:=a}):=bZ
theorem Nq w{p}{ol}{x}{all}{log}{av}(h:kL w p ol x all log av)(hS:SI ol x all log){u:Nat}{k}(hu:x.ai[u]? =some k)(hk:k.kind=3)(hl:all.length<=950000000000):
 Calls prog 150 #[pointer (some ⟨p.yb,0,none⟩),int i64 u] w λy w'=>Dm w w' p ol av x all log u y:=by
 have⟨dr,hdr,fX⟩:=o0;have⟨da,jx,dQ⟩:=kz;have⟨dw,a4,GZ⟩:=JW;have D:=h.low;have h6:=hS.len;have a5:=(aM.1 hu).1;have a8:(u:Int)<x.ai.length:=oQ;have K1:=kG w (cells aU 64);have aS:=ak w (cells aU 64);have h1:=h.aw K1;have eK:=(hS.tk u k hu).st;have R:=ag hS;have e4:kK k=k.steps:=by unfold kK;rw[aq hk]
 have sH:∀t':Tk,t'.kind=3->kK t'=t'.steps:=λt' h=>by unfold kK;rw[aq h]
 clear h;go_in;go_upto_region 1 with fail;generalize w.alloc (cells aU 64)=w1 at*;have x3:w1.cell? _=some (slice (some ⟨p.gb,0,none⟩) x.ai.length x.ai.length):=h1.cell 3;have hc:=h1.C4 hu;have aj:=ak w1 (cells nw 236);have J:=an (w1.alloc (cells nw 236)) w1.heap.size nw (jH ol k).toArray 236 (0,0) aj;have K2:=rQ w1 (cells nw 236) (jH ol k).toArray;have ap:(jH ol k).toArray.all (λx=>x.oneCell')=_:=gH.2 (λu hu=>uH ol k u (cX hu));go_upto_region 2 with(first|refine bS rfl 236 (tmp 16) rfl p.gb (u*14) rfl (jH ol k) dw hc a4 GZ pJ ?_|refine bJ (jH ol k).toArray aj pJ rfl ap ?_);have U:=K2.at_ aS (λx=>x);have a7:=aR aS;have I:=bw (h1.aw K2) (K1.trans K2);clear hc aj ap K1 K2 h1 x3 aS;generalize (w1.alloc (cells nw 236)).setRow w1.heap.size (jH ol k).toArray=Y at*;generalize w1.heap.size=nb at*;have d3:Y.cell? ⟨nb,3,none⟩=some (int i64 k.at_):=dG J rfl;have d4:Y.cell? ⟨nb,4,none⟩=some (int i64 k.steps):=by rw[World.cell?,J,<-e4];rfl
 have c3:Y.cell? _=some (slice (some ⟨p.gb,0,none⟩) x.ai.length x.ai.length):=I.1.cell 3;have c1:_=some av:=I.1.cell 1;have⟨ao,cap,hav⟩:=bp I.1.row;rw[hav]at c1;have aI:=ag hav;clear hav;simp only[Act.put];have a6:k.steps=0\/k.steps=1\/k.steps=2:=oQ;rcases a6 with hs|hs|hs
 ·rw[hs]at d4;rcases R.acy hu hk hs with⟨q,e,F⟩|⟨q1,q2,e,F,aa⟩|⟨n,hn,q1,q2,e,F,aa⟩
  ·have Z:=bw e F;have g1:¬k.at_<0:=by have:=R.pos;omega
   have g2:(all.length:Int)<=k.at_:=oQ;clear e F sH;have E:=ag (yT Y I.1 14 oQ);clear R;go_wp;refine b9 E ?_;intro O K3;have oM:=ak O (cells aU 64);have am:=an (O.alloc (cells aU 64)) O.heap.size aU (bU (Aw all.length 14)) 64 (0,0) oM;have K4:=rQ O (cells aU 64) (bU (Aw all.length 14));have KB:=K3.trans K4;have ab:=KB.at_ U (λx=>x);clear E K3 K4 c3;go_upto_region 8 with(refine bJ (bU (Aw all.length 14)) oM bh rfl (du _) ?_);generalize (O.alloc (cells aU 64)).setRow O.heap.size (bU (Aw all.length 14))=w4 at*;have ad:=an w4 w.heap.size aU (bU (Aw all.length 14)) 64 (0,0) ab;go_wp2_with (first|refine gV am hdr fX bh ?_|refine bJ (bU (Aw all.length 14)) ab bh rfl (du _) ?_);refine kH ad hdr fX bh ?_;exact Dm.of Z.1 rfl (ag (lI.eV I.2 D (lI.of (I.1.aw KB) (KB.mono gM)) ab (bU (Aw all.length 14)))) Z.2 rfl rfl oQ oQ (cT _)
  ·have Z:=bw e F;obtain⟨n,hn⟩:∃n:Nat,k.at_=(n:Int):=⟨k.at_.toNat,oQ⟩
   rw[hn]at d3 aa;have g1:¬(n:Int)<0:=oQ;have g2:¬(all.length:Int)<=n:=oQ;have EK:=ag (z_ Y I.1 n oQ oQ h6);rw[show((n:Int)).toNat=n by omega]at aa;rw[aa]at EK;clear e F sH aa;go_wp;refine b9 EK ?_;intro w9 K9;replace I:=bw (I.1.aw K9) (I.2.trans K9);replace U:=K9.at_ U (λx=>x);replace c3:=K9.bN c3;clear EK K9 c1 d3 d4 J;clear Y;revert w9;intro Y I U c3;have E:=ag (yT Y I.1 15 oQ);clear R;go_wp21;refine b9 E ?_;intro O K3;have oM:=ak O (cells aU 64);have am:=an (O.alloc (cells aU 64)) O.heap.size aU (bU (Aw all.length 15)) 64 (0,0) oM;have K4:=rQ O (cells aU 64) (bU (Aw all.length 15));have KB:=K3.trans K4;have ab:=KB.at_ U (λx=>x);clear E K3 K4 c3;go_upto_region 12 with(refine bJ (bU (Aw all.length 15)) oM bh rfl (du _) ?_);generalize (O.alloc (cells aU 64)).setRow O.heap.size (bU (Aw all.length 15))=w4 at*;have ad:=an w4 w.heap.size aU (bU (Aw all.length 15)) 64 (0,0) ab;go_wp2_with (first|refine gV am hdr fX bh ?_|refine bJ (bU (Aw all.length 15)) ab bh rfl (du _) ?_);refine kH ad hdr fX bh ?_;exact Dm.of Z.1 rfl (ag (lI.eV I.2 D (lI.of (I.1.aw KB) (KB.mono gM)) ab (bU (Aw all.length 15)))) Z.2 rfl rfl oQ oQ (cT _)
  have Z:=bw e F;have HQ:=bw q1 q2;have g2:¬(all.length:Int)<=n:=oQ;have EK:=ag (z_ Y I.1 n hn oQ h6);rw[aa]at EK;clear e F aa q1 q2;go_upto_if 25 with(fail)
  go_cut [7,25]from 26 to 31 (λv _ wx=>v= int i64 n/\wx=Y)
  case first=>
   by_cases qa:k.at_<0
   ·go_wp2;go_meet;exact⟨by rw[(ag (HQ.2 qa))],rfl⟩
   go_wp2;go_meet;exact⟨by rw[(ag (HQ.1 oQ))],rfl⟩
  case rest=>
   obtain⟨rfl,rfl⟩:=hcut;go_wp;refine b9 EK ?_;intro O K3;have h3:=I.1.aw K3;have a0:(aD x u {k with pinned:=(n:Int)}).ai[u]? =some {k with pinned:=(n:Int)}:=by simp[aD,a5]
   have h4:=h3.Rw (t':={k with pinned:=(n:Int)}) hu 6 oQ (int i64 n) rfl;have h5:=h4.Rw (t':={k with steps:=1,pinned:=(n:Int)}) a0 4 oQ (int i64 1) (by unfold jH;rw[sH {k with steps:=1,pinned:=(n:Int)} hk];rfl);have K5:=((K3.mono (S':=C3 p av) gM).setCell (p:=⟨p.gb,u*14+6,none⟩) (λ_=>inr (inl rfl)) (int i64 n)).setCell (p:=⟨p.gb,u*14+4,none⟩) (λ_=>inr (inl rfl)) (int i64 1);have y3:O.cell? _=some (slice (some ⟨p.gb,0,none⟩) x.ai.length x.ai.length):=h3.cell 3;have y6:O.cell? ⟨p.gb,u*14+6,none⟩=some _:=h3.fG hu oQ;have f6:=h3.sn (u*14+6);have z3:(O.setCell ⟨p.gb,u*14+6,none⟩ (int i64 n)).cell? ⟨p.yb,3,none⟩=some (slice (some ⟨p.gb,0,none⟩) x.ai.length x.ai.length):=by rw[h4.cell 3];simp[KH,aD]
   have z4:(O.setCell ⟨p.gb,u*14+6,none⟩ (int i64 n)).cell? ⟨p.gb,u*14+4,none⟩=some (int i64 0):=(h4.fG a0 oQ).trans (by show some (Value.int i64 (kK {k with pinned:=(n:Int)}:Nat))=_;rw[sH {k with pinned:=(n:Int)} hk];show some (Value.int i64 (k.steps:Nat))=_;rw[hs];rfl);have f4:=h4.sn (u*14+4);have hx:=h5.eqv (x':={x with kept:=eB all (x.ai.set u {k with steps:=1,pinned:=(n:Int)}),ai:=x.ai.set u {k with steps:=1,pinned:=(n:Int)}}) (by simp[aD]) rfl;have X:=bw hx K5;clear EK K3 h3 h4 h5 K5 c3 d3 hx a0;go_upto_region 14 with fail;generalize O.setCell ⟨p.gb,u*14+6,none⟩ (int i64 n)=w4 at*;go_upto_region 15 with fail;have lM:=X.2.at_ U (λs=>by have:=D _ s;omega);clear z3 z4 f4 y3 y6 f6 d4;generalize w4.setCell ⟨p.gb,u*14+4,none⟩ (int i64 1)=Q at*;have d4:Q.cell? ⟨nb,4,none⟩=some (int i64 0):=by rw[World.cell?,X.2.at_ J (λs=>by have:=D _ s;omega),<-show(k.steps:Int)=0 by omega,<-e4];rfl
   clear hs e4;go_wp2_with (refine bJ (bU eY) lM bh rfl (du _) ?_);refine kH (an Q w.heap.size aU (bU eY) 64 (0,0) lM) hdr fX bh ?_;exact Dm.of Z.1 rfl (ag (lI.eV I.2 D (lI.of X.1 X.2) lM (bU eY))) Z.2 rfl rfl oQ oQ (cT _)
 ·have⟨e,F⟩:=R.acz hu hk hs;have Z:=bw e F;rw[hs]at d4;have h5:=I.1.Rw (t':={k with steps:=2}) hu 4 oQ (int i64 2) (by unfold jH;rw[sH {k with steps:=2} hk];rfl);have K5:=(Kp.refl (C3 p av) Y).setCell (p:=⟨p.gb,u*14+4,none⟩) (λ_=>inr (inl rfl)) (int i64 2);have z4:Y.cell? ⟨p.gb,u*14+4,none⟩=some (int i64 1):=(I.1.fG hu oQ).trans (by show some (Value.int i64 (kK k:Nat))=_;rw[e4,hs];rfl);have f4:=I.1.sn (u*14+4);have X:=bw h5 K5;clear h5 K5 e F c1 d3 R sH;go_upto_region 15 with fail;have lM:=X.2.at_ U (λs=>by have:=D _ s;omega);clear z4 f4 d4 c3;generalize Y.setCell ⟨p.gb,u*14+4,none⟩ (int i64 2)=Q at*;have d4:Q.cell? ⟨nb,4,none⟩=some (int i64 1):=by rw[World.cell?,X.2.at_ J (λs=>by have:=D _ s;omega),<-show(k.steps:Int)=1 by omega,<-e4];rfl
  clear hs e4;go_wp2_with (refine bJ (bU eY) lM bh rfl (du _) ?_);refine kH (an Q w.heap.size aU (bU eY) 64 (0,0) lM) hdr fX bh ?_;exact Dm.of Z.1 rfl (ag (lI.eV I.2 D (lI.of X.1 X.2) lM (bU eY))) Z.2 rfl rfl oQ oQ (cT _)
 have⟨n,hn,hnl,e,F⟩:=R.acA hu hk hs;have Z:=bw e F;rw[hs]at d4;obtain⟨s,a3⟩:∃s,all[n]? =some s:=⟨_,au hnl⟩
 have a2:all.getD n zX=s:=by rw[iO,a3];rfl
 rw[a2]at Z;have h5:=I.1.Rw (t':={k with steps:=3}) hu 4 oQ (int i64 3) (by unfold jH;rw[sH {k with steps:=3} hk];rfl);have K5:=(Kp.refl (C3 p av) Y).setCell (p:=⟨p.gb,u*14+4,none⟩) (λ_=>inr (inl rfl)) (int i64 3);have z4:Y.cell? ⟨p.gb,u*14+4,none⟩=some (int i64 2):=(I.1.fG hu oQ).trans (by show some (Value.int i64 (kK k:Nat))=_;rw[e4,hs];rfl);have f4:=I.1.sn (u*14+4);have X:=bw h5 K5;clear h5 K5 e F c1 d3 R sH a2;go_upto_region 15 with fail;have lM:=X.2.at_ U (λs=>by have:=D _ s;omega);have a1:=X.2.at_ J (λs=>by have:=D _ s;omega);clear z4 f4 d4 c3;generalize Y.setCell ⟨p.gb,u*14+4,none⟩ (int i64 3)=Q at*;have d4:Q.cell? ⟨nb,4,none⟩=some (int i64 2):=by rw[World.cell?,a1,<-show(k.steps:Int)=2 by omega,<-e4];rfl
 have⟨g,cap',hv,xc⟩:=X.1.Nl a3;rw[aI]at hv;simp only[aH,cA]at hv;obtain⟨rfl,rfl⟩:=hv;have uO:=an Q.drew w.heap.size aU (bU {eY with mY:=(n:Int),st:=bX ol.ah s}) 64 (0,0) lM;have G:Q.drew.cell? ⟨nb,6,none⟩=some (int i64 n)/\Q.drew.cell? ⟨p.yb,1,none⟩=some (slice (some ⟨g,0,none⟩) all.length cap)/\(∀j u,(pD (bX ol.ah s))[j]? =some u->Q.drew.cell? ⟨g,n*6+j,none⟩=some u):=⟨by rw[<-hn];show Q.cell? _=_;rw[World.cell?,a1];rfl,by rw[<-aI];exact X.1.cell 1,xc⟩
 have KR:=(Kp.refl (λk=>k=w.heap.size) Q.drew).setRow (g:=w.heap.size) (λ_=>rfl) (bU {eY with mY:=(n:Int),st:=bX ol.ah s});have ug:(Q.drew.setRow w.heap.size (bU {eY with mY:=(n:Int),st:=bX ol.ah s})).cell? ⟨nb,6,none⟩=some (int i64 n)/\(Q.drew.setRow w.heap.size (bU {eY with mY:=(n:Int),st:=bX ol.ah s})).cell? ⟨p.yb,1,none⟩=some (slice (some ⟨g,0,none⟩) all.length cap)/\(∀j u,(pD (bX ol.ah s))[j]? =some u->(Q.drew.setRow w.heap.size (bU {eY with mY:=(n:Int),st:=bX ol.ah s})).cell? ⟨g,n*6+j,none⟩=some u):=by
  have aO:∀{b i:Nat} {v:Value},b≠w.heap.size->Q.drew.cell? ⟨b,i,none⟩=some v->(Q.drew.setRow w.heap.size (bU {eY with mY:=(n:Int),st:=bX ol.ah s})).cell? ⟨b,i,none⟩=some v:=λhb hv=>by rw[<-hv];exact kO (cN _ _ _ _ hb)
  exact⟨aO oQ G.1,aO (by have:=D _ (inl rfl);omega) G.2.1,λj u hj=>aO (by have:=D g (inr (inr (by rw[aI];rfl)));omega) (G.2.2 j u hj)⟩
 clear hs e4 KR;go_upto_region 17 with fail;refine aY (λw'=>w'.cell? ⟨nb,6,none⟩=some (int i64 n)/\w'.cell? ⟨p.yb,1,none⟩=some (slice (some ⟨g,0,none⟩) all.length cap)/\(∀j u,(pD (bX ol.ah s))[j]? =some u->w'.cell? ⟨g,n*6+j,none⟩=some u)) bZ ?_;refine bR 0 73 (pointer (some ⟨nb,6,none⟩)) G ?_;refine fh 1 74 (int i64 n) rfl (λw' hS=>by simp[execOp,Act.eval,go_sem,hS.1]) G ?_;refine bR 2 75 (pointer (some ⟨p.yb,0,none⟩)) G ?_;refine bR 3 76 (pointer (some ⟨p.yb,0,none⟩)) G ?_;refine bR 4 77 (pointer (some ⟨p.yb,1,none⟩)) G ?_;refine fh 5 78 (slice (some ⟨g,0,none⟩) all.length cap) rfl (λw' hS=>by simp[execOp,Act.eval,go_sem,hS.2.1]) G ?_;refine bR 6 79 (pointer (some ⟨nb,6,none⟩)) G ?_;refine fh 7 80 (int i64 n) rfl (λw' hS=>by simp[execOp,Act.eval,go_sem,hS.1]) G ?_;refine fh 8 81 (pointer (some ⟨g,n*6,none⟩)) rfl (λw' _=>by simp[execOp,Act.eval,go_sem,(oQ:(n:Int)<all.length)]) G ?_;refine fh 9 82 (agg (cM (bX ol.ah s))) rfl (λw' hS=>eT 26 (tmp 81) rfl g (n*6) rfl (pD (bX ol.ah s)) da hS.2.2 jx dQ bF) G ?_;refine fh 10 83 (agg (bU {eY with mY:=(n:Int),st:=bX ol.ah s})) rfl (λw' _=>eU 64 #[(1,.tmp 74),(4,.tmp 82)] rfl (bU {eY with mY:=(n:Int),st:=bX ol.ah s}) [(1,int i64 n),(4,agg (cM (bX ol.ah s)))] nQ (U5 n (bX ol.ah s))) G ?_;refine cQ 11 bZ rfl rfl 64 (tmp 4) (tmp 83) rfl rfl w.heap.size (bU {eY with mY:=(n:Int),st:=bX ol.ah s}) nQ nQ 64 aU lM bh rfl (du _) ug ?_;refine bR 12 5 (bool true) ug ?_;refine bG bZ (bH ?_) _;go_wp;refine kH uO hdr fX bh ?_;exact Dm.of Z.1 rfl (ag (lI.eV I.2 D (lI.of (X.1.aw (Kp.refl _ _).drew) X.2.drew) lM (bU {eY with mY:=(n:Int),st:=bX ol.ah s}))) Z.2 rfl (by simp[aD]) oQ oQ (cT _)
