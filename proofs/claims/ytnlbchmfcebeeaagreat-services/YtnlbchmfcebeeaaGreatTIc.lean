import Derived.Test.YtnlbchmfcebeeaaGreatTOe
set_option maxHeartbeats 12800000
set_option maxRecDepth 100000
namespace Go.Proofs.YtnlbchmfcebeeaaGreat
open Go.Proofs.Tryz Ch
open Go.RowKit
namespace Ch
def Qg(L:Ln)(u:Nat)(r:Rq):Ln:={L with stands:=L.stands.set u true,asked:=L.asked.set u r,rB:=L.rB.set u ((L.all.length:Int)-1),steps:=L.steps.set u 0}
section
variable {t:ByteArray} {ol:Ol} {x:Sv} {all:List Sd} {log:ByteArray} {u:Nat} {k:Tk}
theorem SI.ask(h:SI ol x all log)(hu:x.ah[u]? =some k)(hk:k.kind=0){r:Rq}(D:mJ r=true):SI ol (aA x u (pQ r)) all log:=by
 have e:=(h.tk u k hu).idle hk;subst e
 have E:r.kind≠0:=by rcases wU D with e|e|e|e<;>omega
 refine h.set hu (λm=>by rw[th,uQ rfl]) ?_ rfl (λd=>by simp[gC]at d);exact⟨λe=>absurd (show r.kind=0 from e) E,λ_=>D,λd=>by simp[pQ,gC]at d,by simp[pQ,gC],λ_=>rfl,λ_ e=>by simp[pQ,gC]at e,λ_=>rfl,λe=>by simp[pQ,gC]at e⟩
theorem Td(U:BJ t ol)(hm:(df ol).2.2=0){n:Nat}(I:n<=6):SI ol (pN ol n) [(df ol).1] (df ol).2.1:=by
 have J:eK (List.replicate n gC) 0=0:=by
  grind[eK,th]
 have hk:=xr (all:=[]) (l:=List.replicate n gC) (df ol).1 J
 have D:∀(i:Nat) (a:Tk),(List.replicate n gC)[i]? =some a->a=gC:=by
  grind
 refine⟨rfl,by simp,?_,?_,?_,?_,by simpa[pN,kj]using I,?_,?_,?_,aC _⟩
 ·exact hk
 ·grind[It,hm]
 ·show 0+(df ol).2.1.size=_;omega
 ·have:=FH ⟨#[]⟩ (df ol).2.1
  have e0:((⟨#[]⟩:ByteArray)++(df ol).2.1)=(df ol).2.1:=by apply ky;simp[ByteArray.data_append]
  rw[e0]at this;exact this
 ·intro i a G
  rw[D i a G];grind[JT]
 ·intro i j ti tj hi X E
  rw[D i ti hi]at E;grind[gC]
 intro m O F;have:m<0:=F;omega
end
structure LR(ol:Ol)(x:Sv)(all:List Sd)(log:ByteArray)(L:Ln):Prop where
 al:L.all=all.map (bV ol.ai)
 lg:L.log=log
 ls:L.stands.length=x.ah.length
 la:L.asked.length=x.ah.length
 ll:L.rB.length=x.ah.length
 lp:L.steps.length=x.ah.length
 tk:∀(u:Nat) (k:Tk),x.ah[u]? =some k->∃l s,L.stands[u]? =some (decide (k.kind≠0))/\L.rB[u]? =some l/\L.steps[u]? =some s/\0<=s/\
  (k.kind≠0->L.asked[u]? =some ⟨k.kind,k.events,k.at_⟩/\0<=l/\l<=(all.length:Int)-1/\(k.kind=3->s=(k.steps:Int)/\(1<=k.steps->k.at_<0->l<=k.pinned)))
theorem Te{α:Type}{l:List α}{u i:Nat}{b a:α}(h:l[i]? =some a):(l.set u b)[i]? =some (if i=u then b else a):=by
 grind
section
variable {ol:Ol} {x x':Sv} {all all':List Sd} {log log':ByteArray} {L L':Ln} {u:Nat} {k k':Tk}
theorem LR.ask(r:LR ol x all log L)(hu:x.ah[u]? =some k)(Z:0<all.length){q:Rq}(hq:q.kind≠0):LR ol (aA x u (pQ q)) all log (Qg L u q):=by
 have J:L.all.length=all.length:=by rw[r.al,gx]
 refine⟨r.al,r.lg,by simp[Qg,aA,r.ls],by simp[Qg,aA,r.la],by simp[Qg,aA,r.ll],by simp[Qg,aA,r.lp],?_⟩;intro i a D;obtain⟨O,_⟩:=aJ.1 hu
 rcases iI D with⟨rfl,rfl⟩|⟨U,D⟩
 ·have g:∀{α:Type} (l:List α) (b:α),l.length=x.ah.length->(l.set i b)[i]? =some b:=by
   simp_all
  refine⟨(all.length:Int)-1,0,?_,?_,?_,Int.le_refl _,?_⟩
  ·show(L.stands.set i true)[i]? =_
   rw[g _ _ r.ls];grind[pQ]
  ·show(L.rB.set i ((L.all.length:Int)-1))[i]? =_
   rw[g _ _ r.ll,J]
  ·exact g _ _ r.lp
  intro _;refine⟨g _ _ r.la,by omega,Int.le_refl _,λ_=>⟨rfl,λc=>by simp[pQ,gC]at c⟩⟩
 obtain⟨l,s,X,F,Y,G,I⟩:=r.tk i a D;refine⟨l,s,?_,?_,?_,G,?_⟩
 ·show(L.stands.set u true)[i]? =_
  grind
 ·show(L.rB.set u _)[i]? =_
  rw[Te F,ay U]
 ·show(L.steps.set u 0)[i]? =_
  grind
 intro E;obtain⟨f1,f2,f3,f4⟩:=I E;refine⟨?_,f2,f3,f4⟩;show(L.asked.set u q)[i]? =_;grind
theorem LR.new(ol:Ol)(n:Nat):LR ol (pN ol n) [(df ol).1] (df ol).2.1 (Un (bV ol.ai (df ol).1) (df ol).2.1 n):=by
 refine⟨rfl,rfl,by simp[Un,pN,kj],by simp[Un,pN,kj],by simp[Un,pN,kj],by simp[Un,pN,kj],?_⟩;intro i a F;have D:(List.replicate n gC)[i]? =_:=F;have e:=List.eq_of_mem_replicate (aM D)
 have E:i<n:=by have:=(aJ.1 D).1;simpa using this
 subst e;refine⟨0,0,by simp[Un,E,gC],by simp[Un,E],by simp[Un,E],Int.le_refl _,λh=>absurd rfl h⟩
end
theorem JU(b:ByteArray){i j m:Nat}(D:i<=j)(E:j<=m):(b.extract i b.size).extract (j-i) (m-i)=b.extract j m:=by
 apply ky;apply Array.toList_inj.1;simp_all<;>omega
theorem SI.YE{ol:Ol}{x:Sv}{all:List Sd}{log:ByteArray}(h:SI ol x all log){a:Int}(E:0<=a):
 ((log.size:Int)<a/\mY x a={dT with err:=14,kZ:=(all.length:Int)-1})\/
 (a<(log.size:Int)-24/\mY x a={dT with err:=15,kZ:=(all.length:Int)-1})\/
 (a<=(log.size:Int)/\(log.size:Int)-24<=a/\mY x a={dT with kZ:=(all.length:Int)-1,next:=(if a+8<(log.size:Int)then a+8 else(log.size:Int)),text:=log.extract a.toNat (if a+8<(log.size:Int)then a+8 else(log.size:Int)).toNat}):=by
 have D:x.tail.size=log.size-(log.size-24):=by rw[h.tail,pW];omega
 by_cases c1:(log.size:Int)<a
 ·left
  refine⟨c1,?_⟩
  have e:gW x.joined x.tail a=(⟨#[]⟩,14):=by unfold gW;rw[h.joined,aq c1]
  unfold mY;rw[e,aq (by decide)];unfold ji;rw[h.made]
 right
 by_cases c2:a<(log.size:Int)-(x.tail.size:Int)
 ·left
  refine⟨by omega,?_⟩
  have e:gW x.joined x.tail a=(⟨#[]⟩,15):=by unfold gW;rw[h.joined,ay c1,aq c2]
  unfold mY;rw[e,aq (by decide)];unfold ji;rw[h.made]
 right
 refine⟨by omega,by omega,?_⟩
 have hi:(a-((log.size:Int)-(x.tail.size:Int))).toNat=a.toNat-(log.size-24):=by omega
 have e:gW x.joined x.tail a=(log.extract a.toNat (if a+8<(log.size:Int)then a+8 else(log.size:Int)).toNat,0):=by
  unfold gW;rw[h.joined,ay c1,ay c2,hi]
  by_cases c3:a+8<(log.size:Int)
  ·rw[aq (by omega),aq c3,h.tail,show a.toNat-(log.size-24)+8=(a.toNat+8)-(log.size-24)by omega,JU log (by omega) (by omega),show(a+8).toNat=a.toNat+8 by omega]
  rw[ay (by omega),ay c3,D,h.tail,JU log (by omega) (by omega)];rfl
 have F:(log.extract a.toNat (if a+8<(log.size:Int)then a+8 else(log.size:Int)).toNat).size=(if a+8<(log.size:Int)then a+8 else(log.size:Int)).toNat-a.toNat:=by
  simp_all<;>omega
 unfold mY;rw[e,ay (by simp),h.made];grind
def jy(t:Tk):Nat:=if t.kind=3 then t.steps else if t.drawn then t.aw+1 else 0
def qL(ol:Ol)(t:Tk):As:=if 0<t.aw then bV ol.ai t.now else TC
end Ch
def iE(ol:Ol)(t:Tk):List Value:=[.bool (t.kind !=0),.int .i64 t.kind,.string t.events,.int .i64 t.at_,.int .i64 (jy t),.int .i64 t.bR,.int .i64 t.pinned]++(pO (qL ol t)++[.string t.out])
theorem kI(ol:Ol)(t:Tk):(iE ol t).length=14:=rfl
theorem ws0(ol:Ol):(iE ol gC).toArray=lj:=rfl
theorem rC(ol:Ol)(t:Tk):∀u∈iE ol t,u.oneCell'=true:=by
 intro u hu;simp only[iE,pO,cB,dP,hY,h_]at hu
 rcases hu with(rfl|rfl|rfl|rfl|rfl|rfl|rfl)|(rfl|rfl|rfl|rfl|rfl|rfl)|rfl<;>rfl
def eY(ol:Ol)(l:List Tk):List Value:=l.flatMap (iE ol)
def xY(ol:Ol)(l:List Sd):List Value:=l.flatMap λs=>pO (bV ol.ai s)
structure Rl where
 yb:Nat
 gb:Nat
 cb:Nat
 B:Nat
 l:List NV
 v:Value
def Gm(p:Rl)(n:Nat)(av:Value)(log:ByteArray)(k:Nat):Array Value:=#[.pointer (some ⟨p.cb,0,none⟩),av,.string log,.slice (some ⟨p.gb,0,none⟩) n n,.int .i64 k]
structure jz(w:World)(p:Rl)(ol:Ol)(x:Sv)(all:List Sd)(log:ByteArray)(av:Value):Prop where
 bO:w.heap[p.yb]? =some (.cells (Gm p x.ah.length av log x.aU) 234 (0,0))
 row:w.ownsRow 0 26 6 av all.length (xY ol all)
 FJ:w.heap[p.gb]? =some (.cells (eY ol x.ah).toArray 236 (0,0))
 ch:jW w p.B p.cb p.l p.v
 rf:Rf p.l ol
def zO(p:Rl)(av:Value)(k:Nat):Prop:=k=p.yb\/k=p.gb\/av.ownBlock=some k
def j8(w w':World)(p:Rl)(ol:Ol)(av:Value)(x':Sv)(all':List Sd)(log':ByteArray):Prop:=
 ∃D,jz w' p ol x' all' log' D/\(∀k,D.ownBlock=some k->av.ownBlock=some k\/w.heap.size<=k)/\Kp (zO p av) w w'
theorem mM:(prog.info? 236).map (·.size)=some 14:=by kernel_rfl
theorem FK:∃d,prog.underlying 236=some d/\dU d=true:=⟨_,underlying236,rfl⟩
theorem V2:(prog.info? 236).map (λi=>(i.zero,i.size,i.bytes))=some (some (.agg lj),14,152):=by kernel_rfl
def FM(T:TypeId):Prop:=T=223\/T=9\/T=292\/T=219
section
variable {w w':World} {p:Rl} {ol:Ol} {x:Sv} {all:List Sd} {log:ByteArray} {av:Value}
theorem jz.az{S:Nat->Prop}(h:jz w p ol x all log av)(K:Kp S w w')(hs:∀k,zO p av k->¬S k)(E:∀i D T,w.heap[i]? =some (.cells D T (0,0))->FM T->¬S i):jz w' p ol x all log av:=
 ⟨K.at_ h.bO (hs _ (.inl rfl)),K.owns h.row (λk e=>hs k (.inr (.inr e))),K.at_ h.FJ (hs _ (.inr (.inl rfl))),h.ch.oD K (λi D T hi _ hT=>E i D T hi hT),h.rf⟩
theorem jz.au(h:jz w p ol x all log av)(K:Kp (λ_=>False) w w'):jz w' p ol x all log av:=h.az K (λ_ _ x=>x) (λ_ _ _ _ _ x=>x)
theorem jz.cell(h:jz w p ol x all log av)(j:Nat):w.cell? ⟨p.yb,j,none⟩=(Gm p x.ah.length av log x.aU)[j]?:=by rw[World.cell?,h.bO];rfl
theorem jz.free(h:jz w p ol x all log av)(j:Nat):w.frozen? ⟨p.yb,j,none⟩=false:=by simp[World.frozen?,h.bO]
theorem jz.pf(h:jz w p ol x all log av)(j:Nat):w.frozen? ⟨p.gb,j,none⟩=false:=by simp[World.frozen?,h.FJ]
theorem jz.ew(h:jz w p ol x all log av){u:Nat}{t:Tk}(hu:x.ah[u]? =some t){j:Nat}(D:j<14):w.cell? ⟨p.gb,u*14+j,none⟩=(iE ol t)[j]?:=by
 rw[jf h.FJ];exact jh (iE ol) 14 x.ah u t j (λ_ _=>kI _ _) hu D
theorem jz.zP(h:jz w p ol x all log av){u:Nat}{t:Tk}(hu:x.ah[u]? =some t):∀j v,(iE ol t)[j]? =some v->w.cell? ⟨p.gb,u*14+j,none⟩=some v:=λj v hv=>by
 rw[h.ew hu (by have:=(aJ.1 hv).1;rw[kI]at this;exact this)];exact hv
theorem jz.ne(h:jz w p ol x all log av):p.yb≠p.gb/\av.ownBlock≠some p.yb/\av.ownBlock≠some p.gb:=by
 refine⟨λe=>?_,aZ h.row h.bO (by decide),aZ h.row h.FJ (by decide)⟩;have D:=h.bO;rw[e,h.FJ]at D;simp_all
theorem jz.apart(h:jz w p ol x all log av):∀i D T,w.heap[i]? =some (.cells D T (0,0))->FM T->¬zO p av i:=by
 have E:∀{T T':TypeId} {c F:Array Value} {i:Nat},w.heap[i]? =some (.cells c T (0,0))->w.heap[i]? =some (.cells F T' (0,0))->T=T':=λh1 h2=>by
  simp_all
 rintro i D T hi G (rfl|rfl|e)
 ·have:=E hi h.bO;grind[FM]
 ·have:=E hi h.FJ;grind[FM]
 obtain⟨c,I⟩:=bz h.row e;grind[FM]
theorem jz.turn(h:jz w p ol x all log av){S:Nat->Prop}(K:Kp S w w')(D:∀k,S k->k=p.yb\/k=p.gb){x':Sv}{log':ByteArray}
 (E:w'.heap[p.yb]? =some (.cells (Gm p x'.ah.length av log' x'.aU) 234 (0,0))) (F:w'.heap[p.gb]? =some (.cells (eY ol x'.ah).toArray 236 (0,0))):jz w' p ol x' all log' av:=
 ⟨E,K.owns h.row (λk e s=>(D k s).elim (λq=>h.ne.2.1 (by rw[<-q];exact e)) (λq=>h.ne.2.2 (by rw[<-q];exact e))),F,h.ch.oD K (λi cur T hi _ hT s=>h.apart i cur T hi hT ((D i s).elim .inl (λq=>.inr (.inl q)))),h.rf⟩
theorem jz.Nc(h:jz w p ol x all log av){u:Nat}{t t':Tk}(hu:x.ah[u]? =some t)(j:Nat)(D:j<14)(v:Value)(E:iE ol t'=(iE ol t).set j v):jz (w.setCell ⟨p.gb,u*14+j,none⟩ v) p ol (aA x u t') all log av:=by
 have K:Kp _ _ (w.setCell ⟨p.gb,u*14+j,none⟩ v):=(Kp.refl (λk=>k=p.gb) w).setCell (p:=⟨p.gb,u*14+j,none⟩) (λ_=>rfl) _;refine h.turn K (λ_=>.inr) ?_ ?_
 ·rw[K.at_ h.bO h.ne.1];grind[Gm,aA]
 rw[ak _ h.FJ]
 congr 2
 have:=qG (iE ol) 14 x.ah u t t' j v (λ_ _=>kI _ _) hu D E;unfold eY;show _=(List.flatMap (iE ol) (x.ah.set u t')).toArray;simp_all
theorem jz.YF(h:jz w p ol x all log av){u:Nat}{t t':Tk}(hu:x.ah[u]? =some t)(j:Nat)(l:List Value)(D:j+l.length<=14)(E:iE ol t'=(iE ol t).take j++l++(iE ol t).drop (j+l.length)):
 jz (w.setRow p.gb (putAt (eY ol x.ah).toArray (u*14+j) l)) p ol (aA x u t') all log av:=by
 have K:Kp _ _ (w.setRow p.gb (putAt (eY ol x.ah).toArray (u*14+j) l)):=(Kp.refl (λk=>k=p.gb) w).setRow (λ_=>rfl) _;refine h.turn K (λ_=>.inr) ?_ ?_
 ·rw[K.at_ h.bO h.ne.1];grind[Gm,aA]
 rw[ax w p.gb _ _ 236 (0,0) h.FJ]
 congr 2
 exact wR (iE ol) 14 x.ah u t t' j l (λ_ _=>kI _ _) hu D E
theorem jz.zE(h:jz w p ol x all log av)(j:Nat)(v:Value){log':ByteArray}{k':Nat}(he:(Gm p x.ah.length av log x.aU).setIfInBounds j v=Gm p x.ah.length av log' k'):jz (w.setCell ⟨p.yb,j,none⟩ v) p ol {x with aU:=k'} all log' av:=by
 have K:Kp _ _ (w.setCell ⟨p.yb,j,none⟩ v):=(Kp.refl (λk=>k=p.yb) w).setCell (p:=⟨p.yb,j,none⟩) (λ_=>rfl) _;refine h.turn K (λ_=>.inl) ?_ (K.at_ h.FJ h.ne.1.symm);rw[ak _ h.bO,he]
theorem jz.Uo(x:Sv):(eY ol x.ah).toArray.size=x.ah.length*14:=by
 simp only[List.size_toArray];exact qF (iE ol) 14 x.ah (λ_ _=>kI _ _)
theorem jz.low(h:jz w p ol x all log av):∀k,zO p av k->k<w.heap.size:=by
 rintro k (rfl|rfl|e)
 ·exact aR h.bO
 ·exact aR h.FJ
 obtain⟨D,E⟩:=bz h.row e;grind
theorem j8.of(h:jz w' p ol x all log av)(K:Kp (zO p av) w w'):j8 w w' p ol av x all log:=⟨av,h,λ_ e=>.inl e,K⟩
theorem j8.trans{w'':World}{x':Sv}{all':List Sd}{log':ByteArray}{D:Value}(K:Kp (zO p av) w w')(hk:∀k,D.ownBlock=some k->av.ownBlock=some k\/w.heap.size<=k)(q:j8 w' w'' p ol D x' all' log'):j8 w w'' p ol av x' all' log':=by
 obtain⟨WB,F,G,E⟩:=q;refine⟨WB,F,λk e=>(G k e).elim (hk k) (λe'=>.inr (bA K.size e')),K.trans' E ?_⟩;rintro i hi (s|s|s)
 ·exact .inl s
 ·exact .inr (.inl s)
 rcases hk i s with e|e
 ·exact .inr (.inr e)
 omega
theorem jz.eqv{x':Sv}(h:jz w p ol x all log av)(D:x'.ah=x.ah)(E:x'.aU=x.aU):jz w p ol x' all log av:=⟨by rw[D,E];exact h.bO,h.row,by rw[D];exact h.FJ,h.ch,h.rf⟩
theorem jz.IS(h:jz w p ol x all log av){n:Nat}{s:Sd}(D:all[n]? =some s):∃g cap,av= .slice (some ⟨g,0,none⟩) all.length cap/\∀j v,(pO (bV ol.ai s))[j]? =some v->w.cell? ⟨g,n*6+j,none⟩=some v:=by
 have F:=(aJ.1 D).1;obtain⟨g,cap,rfl,_⟩:=cR h.row (by omega);refine⟨g,cap,rfl,λj v hv=>?_⟩;have E:j<6:=(aJ.1 hv).1;rw[<-hv,<-jh (λs=>pO (bV ol.ai s)) 6 all n s j (λ_ _=>rfl) D E];exact bP h.row (n*6+j) (by omega)
end
namespace Ch
theorem FN{n m:Nat}{l:List Tk}(h:∀t∈l,iB n t=false)(hm:¬m<=n+4):dB m l n=false:=by
 unfold dB eK;simp_all
theorem Nd{n m:Nat}{l:List Tk}{t:Tk}(D:t∈l)(h:iB n t=true):dB m l n=true:=by
 unfold dB eK;rw[gz (List.countP_pos_iff.2 ⟨t,D,h⟩)];rfl
def xu(n:Nat)(e:Int):Rp:={dT with err:=e,kZ:=(n:Int)-1}
end Ch
section
variable (w:World) {p:Rl} {ol:Ol} {x:Sv} {all:List Sd} {log:ByteArray} {av:Value}
theorem wW(h:jz w p ol x all log av)(n:Nat)(hn:n<all.length)(hl:all.length<=1000000000000)(h6:x.ah.length<=6):
 Calls prog 154 #[.pointer (some ⟨p.yb,0,none⟩),.int .i64 n] w λy w'=>y= .returned (.bool (dB all.length x.ah n))/\Kp (λ_=>False) w w':=by
 obtain⟨dw,ad,Dc⟩:=FK;have c1:_=some av:=h.cell 1;have c3:w.cell? _=some (.slice (some ⟨p.gb,0,none⟩) x.ah.length x.ah.length):=h.cell 3;obtain⟨ao,cap,rfl⟩:=bn h.row
 have ap:(n:Int)<(all.length:Int):=by omega
 by_cases q:all.length<=n+4
 ·have q':(all.length:Int)-4<=(n:Int):=by omega
  have Z:=af (show dB all.length x.ah n=true by unfold dB;rw[gz q,Bool.or_true])
  go_enter func154,ntmps154
  go_wp2;go_ret;exact⟨by rw[Z.out];rfl,Kp.refl _ _⟩
 have q':¬(all.length:Int)-4<=(n:Int):=by omega
 have H:=af h;have HQ:=af q;clear h q
 go_enter func154,ntmps154
 go_wp2_with fail
 go_loopw [5] (λi wr=>∃k:Nat,i= .int .i64 k/\k<=x.ah.length/\Hid (∀j t,j<k->x.ah[j]? =some t->iB n t=false)/\Kp (λ_=>False) w wr) (λi _=>x.ah.length-(intOf i).toNat)
 case atStart=>exact⟨0,rfl,aG _,af (λj _ hj=>by omega),Kp.refl _ _⟩
 case round=>
  obtain⟨k,rfl,hk,HN,X⟩:=hrel;have aa:=X.bX c3
  by_cases aj:k<x.ah.length
  ·have J:(k:Int)<(x.ah.length:Int):=by omega
   obtain⟨t,O⟩:∃t,x.ah[k]? =some t:=⟨_,ar aj⟩
   have hc:=(H.out.au X).zP O
   have hz:((k*14:Nat):Int)=(k:Int)*14:=by omega
   have E:=an wr (.cells lj 236);have D:=ax (wr.alloc (.cells lj 236)) wr.heap.size lj (iE ol t).toArray 236 (0,0) E;have K2:Kp (λ_=>False) wr ((wr.alloc (.cells lj 236)).setRow wr.heap.size (iE ol t).toArray):=((Kp.refl _ _).alloc _).setRow (λx=>by omega) _;have G:(iE ol t).toArray.all (λx=>x.oneCell')=_:=gN.2 (λu hu=>rC ol t u (by simpa using hu));have HT:=af O;clear O
   go_upto_region 7 with(first|refine cH rfl 236 (.tmp 42) rfl p.gb (k*14) rfl (iE ol t) dw hc ad Dc mM ?_|refine cj (iE ol t).toArray E mM rfl G ?_)
   have KX:=X.trans K2;clear hc E G K2 hz aa;generalize (wr.alloc (.cells lj 236)).setRow wr.heap.size (iE ol t).toArray=U at*;generalize wr.heap.size=nb at*
   have d0:U.cell? ⟨nb,0,none⟩=some (.bool (t.kind !=0)):=by rw[World.cell?,D];rfl
   have d1:U.cell? ⟨nb,1,none⟩=some (.int .i64 t.kind):=by rw[World.cell?,D];rfl
   have d4:U.cell? ⟨nb,4,none⟩=some (.int .i64 (jy t)):=by rw[World.cell?,D];rfl
   have d6:U.cell? ⟨nb,6,none⟩=some (.int .i64 t.pinned):=by rw[World.cell?,D];rfl
   clear D;simp only[Act.put]
   go_cut [62]from 44 to 62 (λv wx=>v= .bool (iB n t)/\wx=U)
   case first=>
    by_cases Y:t.kind=0
    ·have F:=af (show iB n t=false by simp[iB,Y])
     rw[Y]at d0;go_wp2
     go_meet
     exact⟨by rw[F.out],rfl⟩
    have e0:(t.kind !=0)=true:=by simpa using Y
    rw[e0]at d0
    by_cases I:t.kind=3
    ·rw[I]at d1
     have e4:jy t=t.steps:=by unfold jy;rw[aq I]
     rw[e4]at d4;have Z:=af I;clear I e0 Y e4
     by_cases q2:0<t.steps
     ·have am:(0:Int)<(t.steps:Int):=by omega
      have F:=af (show iB n t=(t.pinned==(n:Int))by unfold iB;rw[Z.out,gz (show 1<=t.steps from q2)];rfl);go_wp2
      go_meet
      exact⟨by rw[F.out],rfl⟩
     have am:¬(0:Int)<(t.steps:Int):=by omega
     have F:=af (show iB n t=false by unfold iB;rw[e_ (show¬ 1<=t.steps by omega)];simp);go_wp2
     go_meet
     exact⟨by rw[F.out],rfl⟩
    have F:=af (show iB n t=false by unfold iB;rw[e_ I];rfl)
    have aI:(t.kind==3)=false:=by simpa using I
    go_wp2
    go_meet
    exact⟨by rw[F.out],rfl⟩
   case rest=>
    obtain⟨rfl,rfl⟩:=hcut
    cases hp:iB n t with
    |true=>
     go_wp2;go_ret;exact⟨by rw[Nd (aM HT.out) hp];rfl,KX⟩
    |false=>?_
    have F:=af hp;clear hp;go_wp2
    go_roundw
    case rel=>
     refine⟨k+1,by go_num,by omega,af (λj t' hj ht'=>?_),KX⟩
     by_cases e:j=k
     ·subst e
      have:=ht'.symm.trans HT.out;simp at this;subst this;exact F.out
     exact HN.out j t' (by omega) ht'
    case measure=>simp[intOf];omega
  have J:¬(k:Int)<(x.ah.length:Int):=by omega
  obtain rfl:k=x.ah.length:=by omega
  go_wp2;go_ret;refine⟨?_,X⟩
  rw[FN (λt O=>by
   obtain⟨i,hi,e⟩:=List.getElem_of_mem O
   exact HN.out i t hi (by rw[ar hi,e])) HQ.out]
  rfl
theorem vQ(h:jz w p ol x all log av)(e:Int)(Y:all.length<=1000000000000):
 Calls prog 208 #[.pointer (some ⟨p.yb,0,none⟩),.int .i64 e] w λy w'=>y= .returned (.agg (bJ (xu all.length e)))/\Kp (λ_=>False) w w':=by
 obtain⟨dr,G,O⟩:=mz;have c1:_=some av:=h.cell 1;have U:=aR h.bO;obtain⟨X,cap,rfl⟩:=bn h.row;have F:Kp (λ_=>False) w (w.alloc (.cells aH 64)):=(Kp.refl _ _).alloc _;have J:=F.bX c1;have D:=an w (.cells aH 64);have E:=ax (w.alloc (.cells aH 64)) w.heap.size aH (bJ (xu all.length e)) 64 (0,0) D;have I:Kp _ _ ((w.alloc (.cells aH 64)).setRow w.heap.size (bJ (xu all.length e))):=F.setRow (λx=>by omega) _;clear h c1 F U
 go_enter func208,ntmps208
 go_wp2_with (refine cj (bJ (xu all.length e)) D aQ rfl (cE _) ?_)
 refine uu E G O aQ ?_;exact⟨rfl,I⟩
theorem AN(h:jz w p ol x all log av)(hl:all.length<=1000000000000)(h6:x.ah.length<=6):
 Calls prog 107 #[.pointer (some ⟨p.yb,0,none⟩)] w λy w'=>∃v,y= .returned v/\w'.ownsRow w.heap.size 3 1 v (rP all.length x.ah).length ((rP all.length x.ah).map λk:Nat=>.int .i64 (k:Int))/\Kp (λ_=>False) w w':=by
 obtain⟨i0,hi,aj,am,ap⟩:=bY lX;have c1:_=some av:=h.cell 1;obtain⟨ao,cap,rfl⟩:=bn h.row;have H:=af h;clear h;have HL:=af (show∀k,((List.range k).filter (dB all.length x.ah)).length<=k from λk=>by have:=l8 (dB all.length x.ah) (List.range k);simpa using this)
 go_enter func107,ntmps107
 go_wp2_with fail
 go_loopw [3,4] (λlv i wr=>∃k:Nat,i= .int .i64 k/\k<=all.length/\Hid (wr.ownsRow w.heap.size 3 1 lv ((List.range k).filter (dB all.length x.ah)).length (((List.range k).filter (dB all.length x.ah)).map λk:Nat=>.int .i64 (k:Int)))/\Kp (λ_=>False) w wr) (λ_ i _=>all.length-(intOf i).toNat)
 case atStart=>exact⟨0,rfl,aG _,af (bT _ _ _ _),Kp.refl _ _⟩
 case round=>
  rename_i lv _;obtain⟨k,rfl,hk,O,U⟩:=hrel;have Z:=U.bX c1
  by_cases ad:k<all.length
  ·have I:(k:Int)<(all.length:Int):=by omega
   have E:=af (wW wr (H.out.au U) k ad hl h6);have aa:=HL.out k
   obtain⟨L,hL⟩:∃L,L=(List.range k).filter (dB all.length x.ah):=⟨_,rfl⟩
   have F:=af (show(List.range (k+1)).filter (dB all.length x.ah)=L++(if dB all.length x.ah k then[k]else[])by rw[l0,ic,hL];simp[List.filter_cons]);rw[<-hL]at O aa;clear hL
   go_wp2_with fail
   refine b9 E ?_;rintro y G ⟨rfl,K2⟩;have Y:=U.trans K2;have o2:=K2.owns O.out (λ_ _ x=>x);clear E O Z
   cases X:dB all.length x.ah k with
   |false=>
    rw[X]at F;have D:=af (F.out.trans (i_ _));clear F X;go_wp2
    go_roundw
    case rel=>exact⟨k+1,by go_num,by omega,af (by rw[D.out];exact o2),Y⟩
    case measure=>simp[intOf];omega
   |true=>?_
   rw[X]at F;have D:=af (show _=L++[k]from F.out);have J:=fQ G [.int .i64 k] 3
   have o3:=(((Kp.refl (λ_=>False) G).alloc (.cells #[.int .i64 k] 3)).owns o2 (λ_ _ x=>x))
   have K3:Kp (λ_=>False) G (G.alloc (.cells #[.int .i64 k] 3)):=(Kp.refl _ _).alloc _;have hB:=Y.size;clear F X o2
   go_wp2_with (at_builtin;refine hJ _ rfl (.tmp 19) (.tmp 21) 38 rfl w.heap.size 3 i0 (.int .i64 0) 1 8 underlying38 hi aj am ap rfl (by decide) _ _ _ rfl o3 ⟨G.heap.size,0,none⟩ 1 1 [.int .i64 k] rfl rfl ?c1 ?c2 ?c3 ?c4 ?c5 ?_)
   case c1=>exact J
   case c2=>intro u hu;simp at hu;subst hu;rfl
   case c3=>unfold maxLen;omega
   case c4=>omega
   case c5=>simp;omega
   intro v4 w4 o4 g4 _;have K4:Kp (λk=>w.heap.size<=k) (G.alloc (.cells #[.int .i64 k] 3)) w4:=(Kp.refl _ _).grown g4 (λi e _=>(o3.lt i e).1);have KZ:Kp (λ_=>False) w w4:=(((Y.trans K3).mono (S':=λk=>w.heap.size<=k) (λ_ _ x=>x.elim)).trans' K4 (λ_ _ x=>x)).mono (λi hi x=>by omega);clear o3 g4 K4 J K3;go_wp2
   go_roundw
   case rel=>exact⟨k+1,by go_num,by omega,af (by rw[D.out];simpa using o4),KZ⟩
   case measure=>simp[intOf];omega
  have I:¬(k:Int)<(all.length:Int):=by omega
  obtain rfl:k=all.length:=by omega
  go_wp2;go_ret;exact⟨_,rfl,O.out,U⟩
end
theorem Qh(ol:Ol)(r:Rq):prog.built 236 [(0,.bool true),(1,.agg (r_ r))]=some (([.bool true,.int .i64 r.kind,.string r.events,.int .i64 r.at_]:List Value)++(iE ol gC).drop 4).toArray:=by kernel_rfl
section
variable (w:World) {p:Rl} {ol:Ol} {x:Sv} {all:List Sd} {log:ByteArray} {av:Value}
theorem FO(e:ByteArray):
 Calls prog 207 #[.string e] w λr w'=>r= .returned (.bool (iV e))/\w'=w:=by
 go_enter func207,ntmps207
 go_wp2_with fail
 go_loopw [3] (λiv wr=>∃i:Nat,iv= .int .i64 i/\i<=e.size/\i<=4/\wr=w/\Hid (∀j,j<i->ez (ag e j)=true)) (λiv _=>5-(intOf iv).toNat)
 case atStart=>exact⟨0,rfl,aG _,aG _,rfl,af (λj hj=>by omega)⟩
 case round=>
  obtain⟨i,rfl,aa,Z,rfl,I⟩:=hrel
  by_cases D:i<e.size
  ·have F:(i:Int)<(e.size:Int):=by omega
   have U:_=some (e[i]'D):=getElem?_pos e i D;have G:=af (ru wr ((e[i]'D).toNat:Int) 97 122);have J:=af (show ez (ag e i)=mC ((e[i]'D).toNat:Int) 97 122 by simp[ag,D,ez,mC]);generalize mC ((e[i]'D).toNat:Int) 97 122=ev at*
   go_wp2_with fail
   refine hm G ?_;rintro r w2 ⟨rfl,rfl⟩;clear G
   cases ev with
   |true=>
    by_cases X:i=4
    ·subst X
     have E:=af (vN (e:=e) (Or.inr D));go_wp2;go_ret;exact⟨by rw[E.out];rfl,rfl⟩
    have Y:¬(4:Int)<=(i:Int):=by omega
    go_wp2
    go_roundw
    case rel=>
     refine⟨i+1,by go_num,by omega,by omega,by first|rfl|trivial,af (λj hj=>?_)⟩
     by_cases e1:j=i
     ·subst e1;exact J.out
     exact I.out j (by omega)
    case measure=>simp[intOf];omega
   |false=>?_
   have E:=af (BQ D J.out);go_wp2;go_ret;exact⟨by rw[E.out];rfl,rfl⟩
  have F:¬(i:Int)<(e.size:Int):=by omega
  obtain rfl:i=e.size:=by omega
  have E:=af (show iV e=decide (0<e.size)by
   by_cases O:e.size<1
   ·rw[vN (.inl O)];exact(e_ (by omega)).symm
   rw[Fz O (by omega) I.out];exact(gz (by omega)).symm)
  go_wp2;go_ret;exact⟨by rw[E.out];rfl,rfl⟩
theorem Dd(r:Rq):
 Calls prog 149 #[.agg (r_ r)] w λx w'=>x= .returned (.bool (mJ r))/\Kp (λ_=>False) w w':=by
 obtain⟨kd,ev,a⟩:=r;have E:=af (show Kp (λ_=>False) w (w.alloc (.cells #[.int .i64 kd,.string ev,.int .i64 a] 79))from(Kp.refl _ _).alloc _);unfold r_
 by_cases I:kd=1
 ·subst I
  have U:=af (FO (w.alloc (.cells #[.int .i64 1,.string ev,.int .i64 a] 79)) ev);have D:=af (show mJ ⟨1,ev,a⟩=(iV ev&&decide (-1<=a))from rfl);generalize iV ev=bt at*
  go_enter func149,ntmps149
  go_wp2_with fail
  refine hm U ?_;rintro r w2 ⟨rfl,rfl⟩;clear U
  cases bt<;>(go_wp2;go_ret;exact⟨by rw[D.out];rfl,E.out⟩)
 have ad:(kd==1)=false:=by simpa using I
 by_cases J:ev=⟨#[]⟩
 ·subst J
  have D:=af (show mJ ⟨kd,⟨#[]⟩,a⟩=((decide (kd=2)&&decide (a=0))||(decide (kd=3)&&decide (-1<=a))||(decide (kd=4)&&decide (0<=a)))by
   unfold mJ;rw[ay I]
   split
   ·rename_i h;subst h;simp;intro _;rfl
   rename_i h2
   split
   ·rename_i h;subst h;simp;intro _;rfl
   rename_i h3
   split
   ·rename_i h;subst h;simp;intro _;rfl
   rename_i h4;simp[h2,h3,h4])
  generalize mJ ⟨kd,⟨#[]⟩,a⟩=rq at*
  have hk:kd=2\/kd=3\/kd=4\/(kd==2)=false/\(kd==3)=false/\(kd==4)=false:=by simp;omega
  have fin:∀b:Bool,rq=b->Hid (rq=b):=λ_ h=>af h
  rcases hk with rfl|rfl|rfl|⟨X,Y,Z⟩
  ·by_cases G:a=0
   ·subst G
    have F:=fin true (by rw[D.out];rfl);clear D
    go_enter func149,ntmps149
    go_wp2;go_ret;exact⟨by rw[F.out];rfl,E.out⟩
   have aj:(a==0)=false:=by simpa using G
   have F:=fin false (by rw[D.out];simp[G]);clear D
   go_enter func149,ntmps149
   go_wp2;go_ret;exact⟨by rw[F.out];rfl,E.out⟩
  ·by_cases G: -1<=a
   ·have F:=fin true (by rw[D.out];simp[G])
    clear D
    go_enter func149,ntmps149
    go_wp2;go_ret;exact⟨by rw[F.out];rfl,E.out⟩
   have F:=fin false (by rw[D.out];simp;omega);clear D
   go_enter func149,ntmps149
   go_wp2;go_ret;exact⟨by rw[F.out];rfl,E.out⟩
  ·have F:=af (D.out.trans (show _=decide (0<=a)by simp))
   clear D
   go_enter func149,ntmps149
   go_wp2;go_ret;exact⟨by rw[F.out];rfl,E.out⟩
  have F:=fin false (by rw[D.out];simp at X Y Z;simp[X,Y,Z]);clear D
  go_enter func149,ntmps149
  go_wp2;go_ret;exact⟨by rw[F.out];rfl,E.out⟩
 have aa:=tS J
 have F:=af (show mJ ⟨kd,ev,a⟩=false by
  have O:¬ev.size=0:=λz=>J (by apply ky;exact tu z)
  unfold mJ
  simp[I,O])
 clear J
 go_enter func149,ntmps149
 go_wp2;go_ret;exact⟨by rw[F.out];rfl,E.out⟩
theorem Qi(h:jz w p ol x all log av)(u:Int)(r:Rq):
 Calls prog 104 #[.pointer (some ⟨p.yb,0,none⟩),.int .i64 u,.agg (r_ r)] w λy w'=>y= .returned (.int .i64 (oP x u r).2)/\j8 w w' p ol av (oP x u r).1 all log:=by
 obtain⟨dq,N1,AL⟩:=JS;have X:Kp (λ_=>False) w (w.alloc (.cells (r_ r) 79)):=(Kp.refl _ _).alloc _;have F:=an w (.cells (r_ r) 79);have O:=h.au X;have aa:=h.low;have rI:=II r;have x3:(w.alloc (.cells (r_ r) 79)).cell? _=some (.slice (some ⟨p.gb,0,none⟩) x.ah.length x.ah.length):=O.cell 3;have Y:=X.mono (S':=zO p av) (λ_ _ x=>x.elim)
 by_cases hc:0<=u/\u<(x.ah.length:Int)
 ·obtain⟨n,rfl⟩:∃n:Nat,u=(n:Int):=⟨u.toNat,by omega⟩
  have ao:=hc.2
  obtain⟨t,hu⟩:∃t,x.ah[n]? =some t:=⟨_,ar (by omega)⟩
  have HU:=af (show oP x (n:Int) r=if t.kind≠0 then(x,11)else if mJ r then(aA x n (pQ r),0)else(x,12)by unfold oP;rw[zL hu];rfl);have c0:(w.alloc (.cells (r_ r) 79)).cell? ⟨p.gb,n*14,none⟩=some _:=O.ew hu (j:=0) (by omega);generalize oP x (n:Int) r=SS at*;have G:=af (ae O Y)
  by_cases q:t.kind=0
  ·rw[q]at c0
   have ER:=af (Dd (w.alloc (.cells (r_ r) 79)) r);have HV:=af (HU.out.trans (ay (λz=>z q)))
   have hb:mJ r=true->prog.built 236 [(0,.bool true),(1,.agg (r_ r))]=some (iE ol (pQ r)).toArray:=λhr=>by
    have hk:(r.kind !=0)=true:=by rcases wU hr with e|e|e|e<;>rw[e]<;>rfl
    have e1:iE ol (pQ r)=[.bool true,.int .i64 r.kind,.string r.events,.int .i64 r.at_]++(iE ol gC).drop 4:=by
     have hd:jy (pQ r)=0:=by unfold jy pQ gC;simp
     unfold iE;rw[hd,show((pQ r).kind !=0)=true from hk];rfl
    rw[e1];exact Qh ol r
   have HB:=af hb
   have J:∀W,jz W p ol x all log av->jz (W.setRow p.gb (putAt (eY ol x.ah).toArray (n*14) (iE ol (pQ r)))) p ol (aA x n (pQ r)) all log av:=λW hW=>
    hW.YF (t':=pQ r) hu 0 (iE ol (pQ r)) (aC _) (by rw[List.take_zero,jG,c_ (by rw[kI,kI];exact aC _),i_])
   have Lw:n*14+(iE ol (pQ r)).length<=(eY ol x.ah).toArray.size:=by rw[jz.Uo,kI];omega
   have sI:_=some (iE ol (pQ r)).length:=mM;have sO:=rC ol (pQ r)
   have aj:∀W,jz W p ol x all log av->W.heap[p.gb]? =some (.cells (eY ol x.ah).toArray 236 (0,0)):=λW hW=>hW.FJ
   generalize (eY ol x.ah).toArray=TA at*;generalize iE ol (pQ r)=TL at*;have HP:=af (ae J aj);clear HU h O hu hc q J aj Y hb X;generalize mJ r=rq at*;generalize r_ r=E at*
   go_enter func104,ntmps104
   go_upto_region 1 with(fail)
   generalize w.alloc (.cells E 79)=w1 at*
   go_wp2_with (refine jO F N1 AL rI ?_)
   refine hm ER ?_;rintro r U ⟨rfl,K3⟩;have Z:=G.out.1.au K3;have KA:=G.out.2.trans' K3 (λ_ _ x=>x.elim);have lC:=K3.at_ F (λx=>x);have y3:U.cell? _=some (.slice (some ⟨p.gb,0,none⟩) x.ah.length x.ah.length):=Z.cell 3;clear ER K3 F x3 c0 G
   cases rq with
   |false=>
    have I:=af (HV.out.trans (ay (by simp)));have HK:=af (ae Z KA);clear HV Z KA;go_wp2;go_ret;rw[I.out];exact⟨rfl,j8.of HK.out.1 HK.out.2⟩
   |true=>?_
   have I:=af (HV.out.trans (aq rfl))
   have D:U.drew.cell? ⟨p.yb,3,none⟩=some (.slice (some ⟨p.gb,0,none⟩) x.ah.length x.ah.length)/\U.drew.heap[w.heap.size]? =some (.cells E 79 (0,0)):=⟨y3,lC⟩
   have h4:=Z.au ((Kp.refl _ _).drewN 1);have ad:=HP.out.2 U.drew h4;have HZ:=af (ae (HP.out.1 U.drew h4) ((KA.drewN 1).setRow (λ_=>.inr (.inl rfl)) (putAt TA (n*14) TL)));have am:=af (HB.out rfl);clear HV Z KA HP HB h4
   go_upto_region 8 with(fail)
   refine bf (λw'=>w'.cell? ⟨p.yb,3,none⟩=some (.slice (some ⟨p.gb,0,none⟩) x.ah.length x.ah.length)/\w'.heap[w.heap.size]? =some (.cells E 79 (0,0))) (by kernel_rfl) ?_;refine bM 0 31 (.pointer (some ⟨p.yb,0,none⟩)) D ?_;refine bM 1 32 (.pointer (some ⟨p.yb,0,none⟩)) D ?_;refine bM 2 33 (.pointer (some ⟨p.yb,3,none⟩)) D ?_;refine eG 3 34 (.slice (some ⟨p.gb,0,none⟩) x.ah.length x.ah.length) rfl (λw' hS=>by simp[execOp,Act.eval,go_sem,hS.1]) D ?_;refine bM 4 35 (.int .i64 n) D ?_;refine eG 5 36 (.agg E) rfl (λw' hS=>du 79 (.tmp 5) rfl w.heap.size rfl 79 E (0,0) dq hS.2 N1 AL rI) D ?_;refine eG 6 37 (.agg TL.toArray) rfl (λw' _=>fA 236 #[(0,.const (.bool true)),(1,.tmp 36)] rfl TL.toArray [(0,.bool true),(1,.agg E)] rfl am.out) D ?_;refine eG 7 38 (.pointer (some ⟨p.gb,n*14,none⟩)) rfl (λw' _=>by simp[execOp,Act.eval,go_sem,ao]) D ?_
   have xI:(U.drew.setRow p.gb (putAt TA (n*14) TL)).cell? ⟨p.yb,3,none⟩=some (.slice (some ⟨p.gb,0,none⟩) x.ah.length x.ah.length)/\(U.drew.setRow p.gb (putAt TA (n*14) TL)).heap[w.heap.size]? =some (.cells E 79 (0,0)):=by
    refine⟨?_,by rw[cG _ _ _ _ (by have:=aa p.gb (.inr (.inl rfl));omega)];exact D.2⟩;rw[HZ.out.1.cell 3];simp[Gm,aA]
   refine vn 8 (by kernel_rfl) rfl rfl (lY 236 (.tmp 38) (.tmp 37) rfl p.gb (n*14) TL rfl rfl 236 TA ad sI Lw sO ⟨xI,?_⟩);refine bF (by kernel_rfl) (bG ?_) _;simp only[Act.put];clear xI D ad;go_wp2;go_ret;rw[I.out];exact⟨rfl,j8.of HZ.out.1 HZ.out.2⟩
  have e0:(t.kind !=0)=true:=by simpa using q
  rw[e0]at c0;have I:=af (HU.out.trans (aq q));clear HU h O hu hc Y X;generalize r_ r=E at*
  go_enter func104,ntmps104
  go_upto_region 1 with(fail)
  generalize w.alloc (.cells E 79)=w1 at*;go_wp2;go_ret;rw[I.out];exact⟨rfl,j8.of G.out.1 G.out.2⟩
 have I:=af (show oP x u r=(x,10)by
  have xh:qK x u=none:=by
   unfold qK
   split
   ·rw[List.getElem?_eq_none_iff];omega
   rfl
  unfold oP;rw[xh])
 generalize oP x u r=SS at*;have G:=af (ae O Y);clear h O X Y;generalize r_ r=E at*
 go_enter func104,ntmps104
 go_upto_region 1 with(fail)
 generalize w.alloc (.cells E 79)=w1 at*
 by_cases q:u<0
 ·go_wp2
  go_ret;rw[I.out];exact⟨rfl,j8.of G.out.1 G.out.2⟩
 have q2:(x.ah.length:Int)<=u:=by omega
 go_wp2;go_ret;rw[I.out];exact⟨rfl,j8.of G.out.1 G.out.2⟩
end
namespace Ch
def vR(m:Nat)(t:Tk):Bool:=(t.kind !=0)&&decide (0<jy t)&&decide (t.kind<=2)&&decide (t.bR<m)
theorem SI.kinds{ol:Ol}{x:Sv}{all:List Sd}{log:ByteArray}(h:SI ol x all log){i:Nat}{t:Tk}(E:x.ah[i]? =some t)(D:t.kind≠0):t.kind=1\/t.kind=2\/t.kind=3\/t.kind=4:=wU ((h.tk i t E).rq D)
theorem SI.low{ol:Ol}{x:Sv}{all:List Sd}{log:ByteArray}(h:SI ol x all log){i m:Nat}{t:Tk}(E:x.ah[i]? =some t):vR m t=true↔t.drawn=true/\t.bR<m:=by
 unfold vR jy;simp only[gy,nO,bne_iff_ne]
 constructor
 ·grind
 rintro⟨D,F⟩;have:=((h.tk i t E).dr D).1;grind
theorem SI.first{ol:Ol}{x:Sv}{all:List Sd}{log:ByteArray}(h:SI ol x all log){u:Nat}{k:Tk}(hu:x.ah[u]? =some k)(F:k.drawn=true):(∀(i:Nat) (t:Tk),x.ah[i]? =some t->vR k.bR t=false)↔k.bR=x.turn:=by
 have hk:=((h.tk u k hu).dr F).2
 constructor
 ·intro I
  obtain⟨i,t,D,E,e⟩:=h.Wx x.turn (aC _) (by omega);have:=I i t D
  rcases jA t.bR k.bR with q|q
  ·rw[(h.low D).2 ⟨E,q⟩]at this;simp_all
  omega
 intro e i t D;rw[Bool.eq_false_iff];intro G;obtain⟨E,q⟩:=(h.low D).1 G;have:=((h.tk i t D).dr E).2.1;omega
end Ch
section
variable (w:World) {p:Rl} {ol:Ol} {x:Sv} {all:List Sd} {log:ByteArray} {av:Value}
theorem zQ(h:jz w p ol x all log av){u:Nat}{k:Tk}(hu:x.ah[u]? =some k)(hk:k.kind=1\/k.kind=2)(hd:k.drawn=false)(hf:k.aw=0)(ht:x.aU<=1000000000000):
 Calls prog 209 #[.pointer (some ⟨p.yb,0,none⟩),.int .i64 u] w λy w'=>y= .returned (.bool false)/\j8 w w' p ol av (nh x u k) all log:=by
 have J:=(aJ.1 hu).1
 have Z:(u:Int)<(x.ah.length:Int):=by omega
 have lC:k.kind≠3:=by omega
 have e0:jy k=0:=by unfold jy;rw[ay lC,hd];rfl
 have c3:w.cell? _=some (.slice (some ⟨p.gb,0,none⟩) x.ah.length x.ah.length):=h.cell 3;have d4:w.cell? ⟨p.gb,u*14+4,none⟩=some (.int .i64 0):=(h.ew hu (by omega)).trans (by show some (Value.int .i64 (jy k:Nat))=_;rw[e0];rfl);have f4:=h.pf (u*14+4)
 have e1:iE ol {k with drawn:=true}=(iE ol k).set 4 (.int .i64 1):=by
  have:jy {k with drawn:=true}=1:=by unfold jy;simp[lC,hf]
  unfold iE;rw[this];rfl
 have F:=h.Nc hu 4 (by omega) (.int .i64 1) e1;have U:Kp _ _ (w.setCell ⟨p.gb,u*14+4,none⟩ (.int .i64 1)):=(Kp.refl (zO p av) w).setCell (p:=⟨p.gb,u*14+4,none⟩) (λ_=>.inr (.inl rfl)) _
 have E:(aA x u {k with drawn:=true}).ah[u]? =some {k with drawn:=true}:=by simp[aA,J]
 have I:(w.setCell ⟨p.gb,u*14+4,none⟩ (.int .i64 1)).cell? ⟨p.yb,3,none⟩=some (.slice (some ⟨p.gb,0,none⟩) x.ah.length x.ah.length):=by rw[F.cell 3];simp[Gm,aA]
 have Z5:(w.setCell ⟨p.gb,u*14+4,none⟩ (.int .i64 1)).cell? _=some (.int .i64 x.aU):=F.cell 4;have d5:(w.setCell ⟨p.gb,u*14+4,none⟩ (.int .i64 1)).cell? ⟨p.gb,u*14+5,none⟩=some (.int .i64 k.bR):=F.ew E (by omega);have f5:=F.pf (u*14+5);have D:=F.Nc E (t':={k with drawn:=true,bR:=x.aU}) 5 (by omega) (.int .i64 x.aU) rfl;have G:=U.setCell (p:=⟨p.gb,u*14+5,none⟩) (λ_=>.inr (.inl rfl)) (.int .i64 x.aU);have H:=af (ae D G);clear h F U D G e1 E e0
 go_enter func209,ntmps209
 go_upto_region 3 with(fail)
 generalize w.setCell ⟨p.gb,u*14+4,none⟩ (.int .i64 1)=w1 at*
 go_region
 have D:=H.out.1.au (Kp.refl _ _).drew;have G:=H.out.2.drew;clear c3 I Z5 d4 d5 f4 f5 H;generalize (w1.setCell ⟨p.gb,u*14+5,none⟩ (.int .i64 x.aU)).drew=w2 at*;have c4:w2.cell? _=some (.int .i64 x.aU):=D.cell 4;have f4:=D.free 4;have Y:=D.zE (log':=log) (k':=x.aU+1) 4 (.int .i64 ((x.aU:Int)+1)) rfl;have X:=G.setCell (p:=⟨p.yb,4,none⟩) (λ_=>.inl rfl) (.int .i64 ((x.aU:Int)+1));have O:=af (ae (Y.eqv (x':=nh x u k) (by simp[nh,aA]) rfl) X);clear D G Y X;go_wp2;go_ret;exact⟨rfl,j8.of O.out.1 O.out.2⟩
theorem rD(h:jz w p ol x all log av)(U:SI ol x all log){u:Nat}{k:Tk}(hu:x.ah[u]? =some k)(hd:k.drawn=true):
 Calls prog 209 #[.pointer (some ⟨p.yb,0,none⟩),.int .i64 u] w λy w'=>y= .returned (.bool (decide (k.bR=x.turn)))/\Kp (λ_=>False) w w':=by
 obtain⟨dw,aa,Dc⟩:=FK;have h6:=U.len;have ap:=(aJ.1 hu).1
 have ZR:(u:Int)<(x.ah.length:Int):=by omega
 have hk:=((U.tk u k hu).dr hd).1
 have e0:jy k=k.aw+1:=by unfold jy;rw[ay (by omega),hd];rfl
 have c3:w.cell? _=some (.slice (some ⟨p.gb,0,none⟩) x.ah.length x.ah.length):=h.cell 3;have d4:w.cell? ⟨p.gb,u*14+4,none⟩=some (.int .i64 ((k.aw:Int)+1)):=(h.ew hu (by omega)).trans (by show some (Value.int .i64 (jy k:Nat))=_;rw[e0];rfl)
 have e4:((k.aw:Int)+1==0)=false:=by simp;omega
 have d5:w.cell? ⟨p.gb,u*14+5,none⟩=some _:=h.ew hu (by omega);have HF:=af (U.first hu hd);have H:=af h;clear h U hk e0
 go_enter func209,ntmps209
 go_wp2_with fail
 go_loopw [5] (λi wr=>∃n:Nat,i= .int .i64 n/\n<=x.ah.length/\Hid (∀j t,j<n->x.ah[j]? =some t->vR k.bR t=false)/\Kp (λ_=>False) w wr) (λi _=>x.ah.length-(intOf i).toNat)
 case atStart=>exact⟨0,rfl,aG _,af (λj _ hj=>by omega),Kp.refl _ _⟩
 case round=>
  obtain⟨n,rfl,hn,HN,O⟩:=hrel;have Z:=O.bX c3
  by_cases ad:n<x.ah.length
  ·have V3:(n:Int)<(x.ah.length:Int):=by omega
   obtain⟨t,J⟩:∃t,x.ah[n]? =some t:=⟨_,ar ad⟩
   have hc:=(H.out.au O).zP J;have F:=an wr (.cells lj 236);have D:=ax (wr.alloc (.cells lj 236)) wr.heap.size lj (iE ol t).toArray 236 (0,0) F;have K2:Kp (λ_=>False) wr ((wr.alloc (.cells lj 236)).setRow wr.heap.size (iE ol t).toArray):=((Kp.refl _ _).alloc _).setRow (λx=>by omega) _;have I:(iE ol t).toArray.all (λx=>x.oneCell')=_:=gN.2 (λu hu=>rC ol t u (by simpa using hu));have HT:=af J;clear J
   go_upto_region 10 with(first|refine cH rfl 236 (.tmp 55) rfl p.gb (n*14) rfl (iE ol t) dw hc aa Dc mM ?_|refine cj (iE ol t).toArray F mM rfl I ?_)
   have G:=O.trans K2;clear hc F I K2 Z;generalize (wr.alloc (.cells lj 236)).setRow wr.heap.size (iE ol t).toArray=Y at*;generalize wr.heap.size=nb at*
   have b0:Y.cell? ⟨nb,0,none⟩=some (.bool (t.kind !=0)):=by rw[World.cell?,D];rfl
   have b1:Y.cell? ⟨nb,1,none⟩=some (.int .i64 t.kind):=by rw[World.cell?,D];rfl
   have b4:Y.cell? ⟨nb,4,none⟩=some (.int .i64 (jy t)):=by rw[World.cell?,D];rfl
   have b5:Y.cell? ⟨nb,5,none⟩=some (.int .i64 t.bR):=by rw[World.cell?,D];rfl
   have am:=G.bX c3;have ao:=G.bX d5;clear D;simp only[Act.put]
   go_cut [82]from 57 to 82 (λv wx=>v= .bool (vR k.bR t)/\Kp (λ_=>False) w wx)
   case first=>
    by_cases q0:t.kind=0
    ·have E:=af (show vR k.bR t=false by unfold vR;rw[q0];rfl)
     rw[q0]at b0
     go_quiet (fail)
     go_wp2
     go_meet
     exact⟨by rw[E.out],G.drewN _⟩
    have g0:(t.kind !=0)=true:=by simpa using q0
    rw[g0]at b0
    by_cases q1:0<jy t
    ·have aj:(0:Int)<(jy t:Int):=by omega
     by_cases q2:t.kind<=2
     ·have E:=af (show vR k.bR t=decide (t.bR<k.bR)by
       unfold vR;rw[g0,gz q1,gz q2]
       simp)
      go_quiet (fail)
      go_wp2
      go_meet
      exact⟨by rw[E.out],G.drewN _⟩
     have E:=af (show vR k.bR t=false by unfold vR;rw[e_ q2];simp)
     go_quiet (fail)
     go_wp2
     go_meet
     exact⟨by rw[E.out],G.drewN _⟩
    have aj:¬(0:Int)<(jy t:Int):=by omega
    have E:=af (show vR k.bR t=false by unfold vR;rw[e_ q1];simp)
    go_quiet (fail)
    go_wp2
    go_meet
    exact⟨by rw[E.out],G.drewN _⟩
   case rest=>
    obtain⟨rfl,G⟩:=hcut
    cases X:vR k.bR t with
    |true=>
     have E:=af (show decide (k.bR=x.turn)=false from e_ (λe=>by have:=HF.out.2 e n t HT.out;rw[X]at this;cases this));clear X;go_wp2;go_ret;exact⟨by rw[E.out];rfl,G⟩
    |false=>?_
    have E:=af X;clear X;go_wp2
    go_roundw
    case rel=>
     refine⟨n+1,by go_num,by omega,af (λj t' hj ht'=>?_),G⟩
     by_cases e:j=n
     ·subst e
      have:=ht'.symm.trans HT.out;simp at this;subst this;exact E.out
     exact HN.out j t' (by omega) ht'
    case measure=>simp[intOf];omega
  have V3:¬(n:Int)<(x.ah.length:Int):=by omega
  obtain rfl:n=x.ah.length:=by omega
  have E:=af (show decide (k.bR=x.turn)=true from gz (HF.out.1 (λi t J=>HN.out i t (aJ.1 J).1 J)));go_wp2;go_ret;exact⟨by rw[E.out];rfl,O⟩
theorem zR(h:jz w p ol x all log av)(s:Sd)(o:ByteArray)(hl:all.length<=1000000000000)(IT:log.size<=1000000000000000000)(ho:o.size<=10000000000):
 Calls prog 210 #[.pointer (some ⟨p.yb,0,none⟩),.agg (dX (bV ol.ai s)),.string o] w λy w'=>y= .returned (.tuple #[])/\j8 w w' p ol av x (all++[s]) (log++o):=by
 obtain⟨i0,J,O,U,aS⟩:=bY Qf;obtain⟨da,sZ,jY⟩:=sN;have am:=h.low;have K0:Kp (λ_=>False) w (w.alloc (.cells (dX (bV ol.ai s)) 26)):=(Kp.refl _ _).alloc _;have Gf:=an w (.cells (dX (bV ol.ai s)) 26);have hW:=h.au K0
 have aa:xY ol (all++[s])=xY ol all++pO (bV ol.ai s):=by simp[xY]
 clear h;obtain⟨G,cap,rfl⟩:=bn hW.row;generalize bV ol.ai s=b at*
 go_enter func210,ntmps210
 go_upto_region 1 with(fail)
 generalize w.alloc (.cells (dX b) 26)=F at*;have D:F.drew.heap[w.heap.size]? =_:=Gf;refine bf (λw'=>w'.heap[w.heap.size]? =some (.cells (dX b) 26 (0,0))) (by kernel_rfl) ?_;refine bM 0 6 (.pointer (some ⟨p.yb,0,none⟩)) D ?_;refine bM 1 7 (.pointer (some ⟨p.yb,0,none⟩)) D ?_;refine bM 2 8 (.pointer (some ⟨p.yb,0,none⟩)) D ?_;refine bM 3 9 (.pointer (some ⟨p.yb,1,none⟩)) D ?_;refine eG 5 11 (.agg (dX b)) rfl (λw' hS=>du 26 (.tmp 4) rfl w.heap.size rfl 26 (dX b) (0,0) da hS sZ jY eC) D ?_;have KA:Kp (λ_=>False) F (F.drew.alloc (.cells (dX b) 26)):=((Kp.refl _ _).drewN 1).alloc _;have E:=hW.au KA;have I:=KA.at_ Gf (λx=>x);have x1:F.drew.cell? _=some (.slice G all.length cap):=hW.cell 1;have y1:(F.alloc (.cells (dX b) 26)).drew.cell? _=some (.slice G all.length cap):=E.cell 1
 refine Be 4 6 10 12 (.slice G all.length cap) (.slice (some ⟨F.drew.heap.size,0,none⟩) 1 1) (F.drew.alloc (.cells (dX b) 26)) (by decide) (by kernel_rfl) (by kernel_rfl) (by kernel_rfl) rfl rfl rfl rfl rfl rfl (by simp[execOp,Act.eval,go_sem,x1])
  (eQ 67 (.tmp 11) rfl 26 i0 (.agg ig) underlying67 J O (by omega) (by omega) (dX b) rfl (by rw[U];rfl))
  (eQ 67 (.tmp 11) rfl 26 i0 (.agg ig) underlying67 J O (by omega) (by omega) (dX b) rfl (by rw[U];rfl))
  (by simp[execOp,Act.eval,go_sem,y1]) D I ?_
 simp only[Act.put,pA,pB,pC];have pP:=an F.drew (.cells (dX b) 26)
 have ad:∀j u,(pO b)[j]? =some u->(F.drew.alloc (.cells (dX b) 26)).cell? ((⟨F.drew.heap.size,0,none⟩:Addr).add j)=some u:=by
  intro j u hj;rw[tI,World.cell?,pP];show(pO b).toArray[j]? =some u;rw[gf];exact hj
 refine oX 7 ?_;refine Nb (.tmp 10) (.tmp 12) 67 rfl 0 26 i0 (.agg ig) 6 72 underlying67 J O U aS rfl (by decide) _ _ _ rfl E.row ⟨F.drew.heap.size,0,none⟩ 1 1 (pO b) rfl rfl ad (by intro u hu;simp[pO]at hu;rcases hu with rfl|rfl|rfl|rfl|rfl|rfl<;>rfl) (by decide) ?c3 ?c4 (aG _) ?_
 case c3=>unfold maxLen;omega
 case c4=>omega
 intro Z cc w8 o8 g8 n8;have X:Kp (λk=>(Value.slice G all.length cap).ownBlock=some k) _ _:=(Kp.refl _ _).grown g8 (λk hk _=>hk);have xR:=X.at_ E.bO E.ne.2.1;have ap:=X.at_ E.FJ E.ne.2.2;have YG:=E.ch.oD X (λi cur T hi _ hT s=>E.apart i cur T hi hT (.inr (.inr s)));have TE:=X.at_ I (λe=>by have:=am _ (.inr (.inr e));omega)
 have aO:p.yb≠w.heap.size:=by have:=am _ (.inl rfl);omega
 refine⟨TE,?_⟩;refine kE 8 14 (.pointer (some ⟨p.yb,0,none⟩)) rfl (λw' _=>by simp[execOp,Act.eval,go_sem,Act.put]) TE ?_;refine kE 9 15 (.pointer (some ⟨p.yb,1,none⟩)) rfl (λw' _=>by simp[execOp,Act.eval,go_sem,Act.put]) TE ?_
 have Xb:w8.cell? ⟨p.yb,1,none⟩=some (.slice G all.length cap):=by rw[World.cell?,xR];rfl
 have aI:w8.frozen? ⟨p.yb,1,none⟩=false:=by simp[World.frozen?,xR]
 have Y:Kp _ _ (w8.setCell ⟨p.yb,1,none⟩ (.slice (some ⟨Z,0,none⟩) (all.length+1) cc)):=(Kp.refl (λk=>k=p.yb) w8).setCell (p:=⟨p.yb,1,none⟩) (λ_=>rfl) _;have aj:=Y.at_ TE aO.symm;have K9:Kp (zO p (.slice G all.length cap)) _ _:=(((K0.trans KA).mono (λ_ _ x=>x.elim)).trans' X (λi _ x=>.inr (.inr x))).trans' Y (λi _ x=>.inl x)
 have h9:jz (w8.setCell ⟨p.yb,1,none⟩ (.slice (some ⟨Z,0,none⟩) (all.length+1) cc)) p ol x (all++[s]) log (.slice (some ⟨Z,0,none⟩) (all.length+1) cc):=by
  refine⟨by rw[ak _ xR];rfl,?_,Y.at_ ap E.ne.1.symm,YG.oD Y (λi cur T hi _ hT s=>?_),E.rf⟩
  ·have:=Y.owns o8 (λi e x=>aZ o8 xR (by decide) (by rw[<-x];exact e))
   rw[aa];simpa using this
  subst s;rw[xR]at hi;simp only[bq,dI]at hi;rw[<-hi.2.1]at hT;revert hT;decide
 have n9:∀k,(Value.slice (some ⟨Z,0,none⟩) (all.length+1) cc).ownBlock=some k->(Value.slice G all.length cap).ownBlock=some k\/w.heap.size<=k:=by
  intro k e
  obtain rfl:Z=k:=by simpa[Value.ownBlock]using e
  exact n8.imp id (bA (K0.trans KA).size)
 refine oX 10 ?_;unfold Oper.wp;simp only[execOp,Act.eval,Act.put];simp[go_sem,Xb,aI];refine⟨aj,?_⟩;refine bF (by kernel_rfl) (bG ?_) _;clear D KA E I x1 y1 pP ad o8 g8 n8 X xR TE Xb aI Y ap YG K0 Gf aj hW aa;generalize w8.setCell ⟨p.yb,1,none⟩ (.slice (some ⟨Z,0,none⟩) (all.length+1) cc)=w9 at*;have z2:w9.cell? _=some (.string log):=h9.cell 2;have zf:=h9.free 2;have hF:=h9.zE (log':=log++o) 2 (.string (log++o)) (k':=x.aU) rfl;have KF:=K9.setCell (p:=⟨p.yb,2,none⟩) (λ_=>.inl rfl) (.string (log++o));have HZ:=af (ae hF (ae n9 KF));clear h9 K9 n9 hF KF;go_wp2
 go_end0
 exact⟨rfl,_,HZ.out⟩
end
def Ab(w w':World)(p:Rl)(ol:Ol)(av:Value)(x:Sv)(all:List Sd)(log:ByteArray)(u:Nat)(y:Ending):Prop:=∃X all' log',y= .returned (.tuple #[.agg (bJ (b8 ol x u).2.1),.bool (b8 ol x u).2.2.1])/\(b8 ol x u).2.2.2=0/\j8 w w' p ol av X all' log'/\SI ol (b8 ol x u).1 all' log'/\(b8 ol x u).1.aU=X.aU/\
 (b8 ol x u).1.ah=(if(b8 ol x u).2.2.1 then X.ah.set u gC else X.ah)/\all'.length<=all.length+1/\log'.size<=log.size+2000000000/\(b8 ol x u).1.aU<=x.aU+1/\((b8 ol x u).2.2.1=false->(b8 ol x u).2.1=dT)/\X.ah.length=x.ah.length
theorem Ab.of{w w':World}{p:Rl}{ol:Ol}{av:Value}{x X:Sv}{all all':List Sd}{log log':ByteArray}{u:Nat}{y:Ending}{x':Sv}{D:Rp}{d:Bool}(e:b8 ol x u=(x',D,d,0))(Y:y= .returned (.tuple #[.agg (bJ D),.bool d]))(q:j8 w w' p ol av X all' log')
 (U:SI ol x' all' log') (E:x'.aU=X.aU) (F:x'.ah=(if d then X.ah.set u gC else X.ah)) (G:all'.length<=all.length+1) (I:log'.size<=log.size+2000000000) (J:x'.aU<=x.aU+1) (O:d=false->D=dT:=by intro h;first|rfl|cases h) (h7:X.ah.length=x.ah.length:=by first|rfl|simp[nh,aA]):Ab w w' p ol av x all log u y:=by
 unfold Ab;rw[e];exact⟨X,all',log',Y,rfl,q,U,E,F,G,I,J,O,h7⟩
section
variable {w w' w'':World} {p:Rl} {ol:Ol} {x:Sv} {all:List Sd} {log:ByteArray} {av:Value}
theorem jz.oO(h:jz w p ol x all log av){b:Nat}{c:Array Value}{T:TypeId}(hb:w.heap[b]? =some (.cells c T (0,0)))(F:¬zO p av b)(E:¬FM T)(D:Array Value):jz (w.setRow b D) p ol x all log av:=
 h.az ((Kp.refl (λk=>k=b) w).setRow (λ_=>rfl) _) (λk s e=>F (by rw[<-e];exact s)) (λi cur T' hi hT' e=>by subst e;rw[hb]at hi;simp only[bq,dI]at hi;exact E (by rw[hi.2.1];exact hT'))
theorem j8.dR{x':Sv}{all':List Sd}{log':ByteArray}(K:Kp (λ_=>False) w w')(F:∀k,zO p av k->k<w.heap.size)(q:j8 w' w'' p ol av x' all' log'){c:Array Value}(G:w''.heap[w.heap.size]? =some (.cells c 64 (0,0)))(D:Array Value):j8 w (w''.setRow w.heap.size D) p ol av x' all' log':=by
 obtain⟨O,E,J,I⟩:=q;refine⟨O,E.oO G ?_ (by unfold FM;decide) D,λk e=>(J k e).imp id (bA K.size),((K.mono (λ_ _ x=>x.elim)).trans' I (λ_ _ s=>s)).setRow (λx=>by omega) D⟩;rintro(e|e|e)
 ·have:=F _ (.inl rfl);omega
 ·have:=F _ (.inr (.inl rfl));omega
 exact aZ E.row G (by decide) e
theorem j8.zero{b:Nat}{x':Sv}{all':List Sd}{log':ByteArray}(q:j8 w w' p ol av x' all' log')(E:∀k,zO p av k->k<b){o:Obj}(F:w.heap[b]? =some o):w'.heap[b]? =some o:=by
 obtain⟨J,G,I,D⟩:=q;exact D.at_ F (λs=>by have:=E b s;omega)
end
theorem Ch.Good.wtr{ol:Ol}{s:Sd}(g:Ch.Good ol s):Ir ol (bV ol.ai s) s:=⟨rfl,g.inv,g.ok,Ch.TL.mono (by decide) _ (aC _) g.tl.1,g.tl.2⟩
section
variable (w:World) {p:Rl} {ol:Ol} {x:Sv} {all:List Sd} {log:ByteArray} {av:Value}
theorem IU(h:jz w p ol x all log av)(Y:SI ol x all log)(a:Nat)(hl:all.length<=1000000000000)(IT:log.size<=1000000000000000000):
 Calls prog 151 #[.pointer (some ⟨p.yb,0,none⟩),.int .i64 a] w λy w'=>y= .returned (.agg (bJ (mY x a)))/\Kp (λ_=>False) w w':=by
 obtain⟨dr,U,eJ⟩:=mz;have K1:Kp (λ_=>False) w (w.alloc (.cells aH 64)):=(Kp.refl _ _).alloc _;have F:=an w (.cells aH 64);have O:=h.au K1;have c2:(w.alloc (.cells aH 64)).cell? _=some (.string log):=O.cell 2;have X:=af (Y.YE (a:=(a:Int)) (by omega));generalize mY x (a:Int)=I at*;clear Y h
 have bad:∀e:Int,I=xu all.length e->Hid (Calls prog 208 #[.pointer (some ⟨p.yb,0,none⟩),.int .i64 e] (w.alloc (.cells aH 64)) λy w'=>y= .returned (.agg (bJ I))/\Kp (λ_=>False) (w.alloc (.cells aH 64)) w'):=λe he=>af (by rw[he];exact vQ _ O e hl)
 by_cases q1:(log.size:Int)<(a:Int)
 ·have E:=bad 14 (by rcases X.out with⟨_,e⟩|⟨c,_⟩|⟨c,_⟩;exact e;omega;omega)
  clear X bad
  go_enter func151,ntmps151
  go_upto_region 1 with(fail)
  generalize w.alloc (.cells aH 64)=w1 at*
  go_wp2_with fail
  refine hm E ?_;rintro y w2 ⟨rfl,K2⟩;have J:=K2.at_ F (λx=>x);have G:=ax w2 w.heap.size aH (bJ I) 64 (0,0) J;have KF:=(K1.trans K2).setRow (g:=w.heap.size) (λx=>by omega) (bJ I);clear E
  go_wp2_with (refine cj (bJ I) J aQ rfl (cE _) ?_)
  refine uu G U eJ aQ ?_;exact⟨rfl,KF⟩
 by_cases q2:(a:Int)<(log.size:Int)-24
 ·have E:=bad 15 (by rcases X.out with⟨c,_⟩|⟨_,e⟩|⟨_,c,_⟩;omega;exact e;omega)
  clear X bad
  go_enter func151,ntmps151
  go_upto_region 1 with(fail)
  generalize w.alloc (.cells aH 64)=w1 at*
  go_wp2_with fail
  refine hm E ?_;rintro y w2 ⟨rfl,K2⟩;have J:=K2.at_ F (λx=>x);have G:=ax w2 w.heap.size aH (bJ I) 64 (0,0) J;have KF:=(K1.trans K2).setRow (g:=w.heap.size) (λx=>by omega) (bJ I);clear E
  go_wp2_with (refine cj (bJ I) J aQ rfl (cE _) ?_)
  refine uu G U eJ aQ ?_;exact⟨rfl,KF⟩
 obtain⟨e,he⟩:∃e:Nat,(e:Int)=if(a:Int)+8<(log.size:Int)then(a:Int)+8 else(log.size:Int):=⟨(if(a:Int)+8<(log.size:Int)then(a:Int)+8 else(log.size:Int)).toNat,by split<;>omega⟩
 have HE:=af (show I={dT with kZ:=(all.length:Int)-1,next:=(e:Int),text:=log.extract a e}by
  rcases X.out with⟨c,_⟩|⟨c,_⟩|⟨_,_,h⟩
  ·omega
  ·omega
  rw[h,<-he];rfl)
 have am:e<=log.size:=by split at he<;>omega
 have aj:a<=e:=by split at he<;>omega
 have Z:=af he;have c1:_=some av:=O.cell 1;obtain⟨ao,cap,rfl⟩:=bn O.row
 have hw:IntKind.i64.wrap ((all.length:Int)-1)=(all.length:Int)-1:=by rw[nW];omega
 have aa:w.heap.size≠p.yb:=by have:=aR O.bO;intro e;have h:=O.bO;rw[<-e,F]at h;simp at h
 clear X bad O he
 go_enter func151,ntmps151
 go_upto_region 1 with(fail)
 generalize w.alloc (.cells aH 64)=w1 at*
 go_upto_if 27 with(fail)
 go_cut [6,27]from 28 to 29 (λv _ wx=>v= .int .i64 e/\wx=w1)
 case first=>
  by_cases q3:(8:Int)<(log.size:Int)-(a:Int)
  ·have H3:=af (Z.out.trans (aq (by omega)))
   go_wp2
   go_meet
   exact⟨by rw[H3.out],rfl⟩
  have H3:=af (Z.out.trans (ay (by omega)));go_wp2
  go_meet
  exact⟨by rw[H3.out],rfl⟩
 case rest=>
  obtain⟨rfl,rfl⟩:=hcut;have KF:Kp _ _ (wc.drew.setRow w.heap.size (bJ I)):=K1.drew.setRow (λx=>by omega) _;have G:=ax wc.drew w.heap.size aH (bJ I) 64 (0,0) F
  go_upto_region 9 with(fail)
  have D:wc.drew.cell? ⟨p.yb,1,none⟩=some (.slice ao all.length cap)/\wc.drew.cell? ⟨p.yb,2,none⟩=some (.string log):=⟨c1,c2⟩
  have ad:(wc.drew.setRow w.heap.size (bJ I)).cell? ⟨p.yb,1,none⟩=some (.slice ao all.length cap)/\(wc.drew.setRow w.heap.size (bJ I)).cell? ⟨p.yb,2,none⟩=some (.string log):=⟨by rw[<-D.1];exact jC (cG _ _ _ _ aa.symm),by rw[<-D.2];exact jC (cG _ _ _ _ aa.symm)⟩
  refine bf (λw'=>w'.cell? ⟨p.yb,1,none⟩=some (.slice ao all.length cap)/\w'.cell? ⟨p.yb,2,none⟩=some (.string log)) (by kernel_rfl) ?_;refine bM 0 30 (.pointer (some ⟨p.yb,0,none⟩)) D ?_;refine bM 1 31 (.pointer (some ⟨p.yb,0,none⟩)) D ?_;refine bM 2 32 (.pointer (some ⟨p.yb,1,none⟩)) D ?_;refine eG 3 33 (.slice ao all.length cap) rfl (λw' Y=>by simp[execOp,Act.eval,go_sem,Y.1]) D ?_;refine bM 4 34 (.int .i64 all.length) D ?_;refine eG 5 35 (.int .i64 ((all.length:Int)-1)) rfl (λw' _=>by simp[execOp,Act.eval,go_sem,hw]) D ?_;refine bM 6 36 (.pointer (some ⟨p.yb,0,none⟩)) D ?_;refine bM 7 37 (.pointer (some ⟨p.yb,0,none⟩)) D ?_;refine bM 8 38 (.pointer (some ⟨p.yb,2,none⟩)) D ?_;refine eG 9 39 (.string log) rfl (λw' Y=>by simp[execOp,Act.eval,go_sem,Y.2]) D ?_;refine bM 10 40 (.int .i64 a) D ?_;refine bM 11 41 (.int .i64 e) D ?_;refine eG 12 42 (.string (log.extract a e)) rfl (λw' _=>by simp[execOp,Act.eval,go_sem,am,aj]) D ?_;refine bM 13 43 (.int .i64 e) D ?_
  refine eG 14 44 (.agg (bJ I)) rfl (λw' _=>fA 64 #[(1,.tmp 35),(5,.tmp 42),(3,.tmp 43)] rfl (bJ I) [(1,.int .i64 ((all.length:Int)-1)),(5,.string (log.extract a e)),(3,.int .i64 e)] (by simp[Act.eval]) (by rw[HE.out];kernel_rfl)) D ?_;refine cK 15 (by kernel_rfl) rfl rfl 64 (.tmp 4) (.tmp 44) rfl rfl w.heap.size (bJ I) (by simp[Act.eval]) (by simp[Act.eval]) 64 aH F aQ rfl (cE _) ad ?_;refine bF (by kernel_rfl) (bG ?_) _
  go_wp2_with fail
  refine uu G U eJ aQ ?_;exact⟨rfl,KF⟩
theorem IV{t:ByteArray}(h:jz w p ol x all log av)(U:SI ol x all log)(hR:BJ t ol){u:Nat}{k:Tk}(hu:x.ah[u]? =some k)(hk:k.kind=2)(hl:all.length<=100000000000)(IT:log.size<=100000000000000000)(ht:x.aU<=1000000000000):
 Calls prog 152 #[.pointer (some ⟨p.yb,0,none⟩),.int .i64 u] w λy w'=>Ab w w' p ol av x all log u y:=by
 obtain⟨dr,ad,eJ⟩:=mz;obtain⟨da,sZ,jY⟩:=sN;have X:=h.low;have K1:Kp (λ_=>False) w (w.alloc (.cells aH 64)):=(Kp.refl _ _).alloc _;have F:=an w (.cells aH 64);have h1:=h.au K1;have hf:=U.IQ hu (by omega)
 cases hd:k.drawn with
 |false=>
  have E:=af (zQ _ h1 hu (.inr hk) hd hf ht);have Y:=af (U.Um hu (.inr hk) hd);clear h h1
  go_enter func152,ntmps152
  go_upto_region 1 with(fail)
  generalize w.alloc (.cells aH 64)=w1 at*
  go_wp2_with fail
  refine hm E ?_;rintro y O ⟨rfl,Q2⟩;have I:=Q2.zero X F;have QF:=af (Q2.dR K1 X I (bJ dT));have J:=ax O w.heap.size aH (bJ dT) 64 (0,0) I;clear E Q2
  go_wp2_with (refine cj (bJ dT) I aQ rfl (cE _) ?_)
  refine oR J ad eJ aQ ?_;exact Ab.of Y.out.1 rfl QF.out Y.out.2 rfl rfl (by omega) (by omega) (aC _)
 |true=>?_
 have E:=af (rD _ h1 U hu hd)
 by_cases IW:k.bR=x.turn
 ·rw[gz IW]at E
  have Y:=af (U.Yy hR hu hk hd IW);have hg:=U.FI;have hr:=zG (hg.wait hR);have iG:=zF h.rf.ok 17 hr;simp only[jB,gw]at iG;have aS:=U.pos
  obtain⟨s,hs⟩:∃s,all[all.length-1]? =some s:=⟨_,ar (by omega)⟩
  have aj:eU all=s:=by unfold eU;rw[lL,hs];rfl
  rw[aj]at hg hr Y iG
  have EW:=λW K=>af (Fo W p.B p.cb p.l p.v ol _ s _ (h.au K).ch h.rf hg.wtr hg.tl hr)
  have H:=af (ae h U);generalize aI:AJ ol s=wt at*;obtain⟨s',o⟩:=wt;clear h aI hr hg aj U;simp only at EW Y iG
  go_enter func152,ntmps152
  go_upto_region 1 with(fail)
  generalize w.alloc (.cells aH 64)=w1 at*
  go_wp2_with fail
  refine hm E ?_;rintro y O ⟨rfl,Z⟩;have I:=Z.at_ F (λx=>x);have KA:=K1.trans Z;have h2:=h1.au Z;have c0:O.cell? _=some (.pointer (some ⟨p.cb,0,none⟩)):=h2.cell 0;have c1:_=some av:=h2.cell 1;obtain⟨g,cap,rfl,xc⟩:=h2.IS hs
  have am:∀j u,(pO (bV ol.ai s))[j]? =some u->O.cell? ⟨g,((all.length:Int)-1).toNat*6+j,none⟩=some u:=by
   rw[show((all.length:Int)-1).toNat=all.length-1 by omega];exact xc
  have hw:IntKind.i64.wrap ((all.length:Int)-1)=(all.length:Int)-1:=by rw[nW];omega
  have ap:(1:Int)<=(all.length:Int):=by omega
  have Ya:¬(all.length:Int)<=(all.length:Int)-1:=by omega
  have sL:_=some (pO (bV ol.ai s)).length:=eC;have HX:=af (ae h2 KA)
  have aa:=λW K=>EW W (KA.trans K)
  clear E Z h1 h2 F xc EW
  go_upto_region 4 with(fail)
  go_cut [7,8]from 15 to 34 (λq e wx=>∃fb,q= .pointer (some ⟨fb,0,none⟩)/\e= .string o/\wx.heap[fb]? =some (.cells (dX (bV ol.ai s')) 26 (0,0))/\Kp (λ_=>False) O wx)
  case first=>
   have D:Kp (λ_=>False) O _:=(Kp.refl _ _).drew;refine bf (λw'=>Kp (λ_=>False) O w') (by kernel_rfl) ?_;refine bM 0 16 (.pointer (some ⟨p.yb,0,none⟩)) D ?_;refine bM 1 17 (.pointer (some ⟨p.yb,0,none⟩)) D ?_;refine bM 2 18 (.pointer (some ⟨p.yb,0,none⟩)) D ?_;refine eG 3 19 (.pointer (some ⟨p.cb,0,none⟩)) rfl (λw' U=>by simp[execOp,Act.eval,go_sem,U.bX c0]) D ?_;refine bM 4 20 (.pointer (some ⟨p.yb,0,none⟩)) D ?_;refine bM 5 21 (.pointer (some ⟨p.yb,0,none⟩)) D ?_;refine bM 6 22 (.pointer (some ⟨p.yb,1,none⟩)) D ?_;refine eG 7 23 (.slice (some ⟨g,0,none⟩) all.length cap) rfl (λw' U=>by simp[execOp,Act.eval,go_sem,U.bX c1]) D ?_;refine bM 8 24 (.pointer (some ⟨p.yb,0,none⟩)) D ?_;refine bM 9 25 (.pointer (some ⟨p.yb,0,none⟩)) D ?_;refine bM 10 26 (.pointer (some ⟨p.yb,1,none⟩)) D ?_;refine eG 11 27 (.slice (some ⟨g,0,none⟩) all.length cap) rfl (λw' U=>by simp[execOp,Act.eval,go_sem,U.bX c1]) D ?_;refine bM 12 28 (.int .i64 all.length) D ?_
   refine eG 13 29 (.int .i64 ((all.length:Int)-1)) rfl (λw' _=>by simp[execOp,Act.eval,go_sem,hw]) D ?_;refine eG 14 30 (.pointer (some ⟨g,((all.length:Int)-1).toNat*6,none⟩)) rfl (λw' _=>by simp[execOp,Act.eval,go_sem,ap,Ya]) D ?_;refine eG 15 31 (.agg (dX (bV ol.ai s))) rfl (λw' U=>eo 26 (.tmp 30) rfl g (((all.length:Int)-1).toNat*6) rfl (pO (bV ol.ai s)) da (λj u hj=>U.bX (am j u hj)) sZ jY sL) D ?_;refine rh 16 20 (by kernel_rfl) rfl rfl rfl rfl ?_ ?_
   ·refine dW (some 32) rfl 147 #[.pointer (some ⟨p.cb,0,none⟩),.agg (dX (bV ol.ai s))] (by simp[execOp,Act.eval,go_sem]) _ (λw'=>Kp (λ_=>False) O.drew w') (aa O.drew D).out ?_
    intro w5 K5;have G:=D.trans K5;have xI:=G.alloc (.cells ig 26);have F:=an w5 (.cells ig 26);have ub:=xI.setRow (g:=w5.heap.size) (λx=>by have:=G.size;omega) (dX (bV ol.ai s'));refine⟨G,?_⟩;simp only[Act.put,pA,pB,pC];refine bM 17 15 (.tuple #[.agg (dX (bV ol.ai s')),.string o]) G ?_;refine bM 18 33 (.agg (dX (bV ol.ai s'))) G ?_;refine bM 19 34 (.string o) G ?_;refine oX 20 ?_;refine gI (some 7) rfl (.pointer (some ⟨w5.heap.size,0,none⟩)) (w5.alloc (.cells ig 26)) (by simp[execOp,go_sem]) ?_;simp only[Act.put,pA,pB,pC];refine⟨xI,?_⟩;refine cK 21 (by kernel_rfl) rfl rfl 26 (.tmp 7) (.tmp 33) rfl rfl w5.heap.size (dX (bV ol.ai s')) (by simp[Act.eval]) (by simp[Act.eval]) 26 ig F eC rfl (mU _) ub ?_;refine bM 22 8 (.string o) ub ?_;refine bF (by kernel_rfl) (bG ?_) _;go_wp2
    go_meet
    exact⟨w5.heap.size,rfl,rfl,ax _ _ _ _ _ _ F,ub⟩
   refine gI (some 7) rfl (.pointer (some ⟨O.heap.size,0,none⟩)) (O.drew.alloc (.cells ig 26)) (by simp[execOp,go_sem]) ?_;simp only[Act.put,pA,pB,pC];have F:=an O.drew (.cells ig 26);have K_:=D.alloc (.cells ig 26);refine⟨K_,?_⟩;refine oX 16 ?_;refine dW (some 32) rfl 147 #[.pointer (some ⟨p.cb,0,none⟩),.agg (dX (bV ol.ai s))] (by simp[execOp,Act.eval,go_sem]) _ (λw'=>Kp (λ_=>False) (O.drew.alloc (.cells ig 26)) w') (aa _ K_).out ?_;intro w5 K5;have G:=K_.trans K5;have lH:=K5.at_ (k:=O.heap.size) (by exact F) (λx=>x);have ub:=G.setRow (g:=O.heap.size) (λx=>by omega) (dX (bV ol.ai s'));refine⟨G,?_⟩;simp only[Act.put,pA,pB,pC];refine bM 17 15 (.tuple #[.agg (dX (bV ol.ai s')),.string o]) G ?_;refine bM 18 33 (.agg (dX (bV ol.ai s'))) G ?_;refine bM 19 34 (.string o) G ?_;refine cK 21 (by kernel_rfl) rfl rfl 26 (.tmp 7) (.tmp 33) rfl rfl O.heap.size (dX (bV ol.ai s')) (by simp[Act.eval]) (by simp[Act.eval]) 26 ig lH eC rfl (mU _) ub ?_;refine bM 22 8 (.string o) ub ?_;refine bF (by kernel_rfl) (bG ?_) _;go_wp2
   go_meet
   exact⟨O.heap.size,rfl,rfl,ax _ _ _ _ _ _ lH,ub⟩
  case rest=>
   obtain⟨fb,rfl,rfl,J,K5⟩:=hcut;have KC:=HX.out.2.trans K5;have oW:=K5.at_ I (λx=>x);have EJ:=af (zR wc (HX.out.1.au K5) s' o (by omega) (by omega) (by omega));clear K5 HX I c0 c1 am aa
   go_wp2_with (refine jO J sZ jY (PR _) ?_)
   refine hm EJ ?_;rintro y w6 ⟨rfl,Q6⟩;have vV:=Q6.zero X oW;have QF:=af (Q6.dR KC X vV (bJ {dT with kZ:=(all.length:Int),text:=o}));have FP:=ax w6 w.heap.size aH (bJ {dT with kZ:=(all.length:Int),text:=o}) 64 (0,0) vV;obtain⟨ao,h6,_,_⟩:=Q6;have c1:_=some ao:=h6.cell 1;obtain⟨a0,aO,rfl⟩:=bn h6.row;rw[gu,List.length_singleton]at c1;clear EJ oW J h6
   go_wp2_with (refine cj (bJ {dT with kZ:=(all.length:Int),text:=o}) vV aQ rfl (cE _) ?_)
   refine oR FP ad eJ aQ ?_;exact Ab.of Y.out.1 rfl QF.out Y.out.2 rfl rfl (by simp) (by rw[iJ];omega) (cJ _)
 rw[e_ IW]at E;have Y:=af (ae (SI.waits (ol:=ol) hu (.inr hk) hd IW) U);have HX:=af h1;clear h h1 U
 go_enter func152,ntmps152
 go_upto_region 1 with(fail)
 generalize w.alloc (.cells aH 64)=w1 at*
 go_wp2_with fail
 refine hm E ?_;rintro y O ⟨rfl,Z⟩;have I:=Z.at_ F (λx=>x);have QF:=af (j8.dR K1 X (j8.of (HX.out.au Z) (Z.mono (λ_ _ x=>x.elim))) I (bJ dT));have J:=ax O w.heap.size aH (bJ dT) 64 (0,0) I;clear E Z
 go_wp2_with (refine cj (bJ dT) I aQ rfl (cE _) ?_)
 refine oR J ad eJ aQ ?_;exact Ab.of Y.out.1 rfl QF.out Y.out.2 rfl rfl (by omega) (by omega) (cJ _)
end
theorem Qj(n:Nat)(a:As):prog.built 64 [(1,.int .i64 n),(4,.agg (dX a))]=some (bJ {dT with kZ:=(n:Int),st:=a}):=by kernel_rfl
section
variable (w:World) {p:Rl} {ol:Ol} {x:Sv} {all:List Sd} {log:ByteArray} {av:Value}
theorem IX(h:jz w p ol x all log av)(hS:SI ol x all log){u:Nat}{k:Tk}(hu:x.ah[u]? =some k)(hk:k.kind=3)(hl:all.length<=100000000000):
 Calls prog 150 #[.pointer (some ⟨p.yb,0,none⟩),.int .i64 u] w λy w'=>Ab w w' p ol av x all log u y:=by
 obtain⟨dr,aa,eJ⟩:=mz;obtain⟨da,sZ,jY⟩:=sN;obtain⟨dw,a7,Dc⟩:=FK;have D:=h.low;have h6:=hS.len;have a8:=(aJ.1 hu).1
 have ZR:(u:Int)<(x.ah.length:Int):=by omega
 have K1:Kp (λ_=>False) w (w.alloc (.cells aH 64)):=(Kp.refl _ _).alloc _;have a3:=an w (.cells aH 64);have h1:=h.au K1;have dE:=(hS.tk u k hu).st;have X:=af hS
 have e4:jy k=k.steps:=by unfold jy;rw[aq hk]
 have sH:∀t':Tk,t'.kind=3->jy t'=t'.steps:=λt' h=>by unfold jy;rw[aq h]
 clear h
 go_enter func150,ntmps150
 go_upto_region 1 with(fail)
 generalize w.alloc (.cells aH 64)=w1 at*;have x3:w1.cell? _=some (.slice (some ⟨p.gb,0,none⟩) x.ah.length x.ah.length):=h1.cell 3;have hc:=h1.zP hu;have aI:=an w1 (.cells lj 236);have O:=ax (w1.alloc (.cells lj 236)) w1.heap.size lj (iE ol k).toArray 236 (0,0) aI;have K2:Kp (λ_=>False) w1 ((w1.alloc (.cells lj 236)).setRow w1.heap.size (iE ol k).toArray):=((Kp.refl _ _).alloc _).setRow (λx=>by omega) _;have aS:(iE ol k).toArray.all (λx=>x.oneCell')=_:=gN.2 (λu hu=>rC ol k u (by simpa using hu))
 go_upto_region 2 with(first|refine cH rfl 236 (.tmp 16) rfl p.gb (u*14) rfl (iE ol k) dw hc a7 Dc mM ?_|refine cj (iE ol k).toArray aI mM rfl aS ?_)
 have Y:=K2.at_ a3 (λx=>x);have bc:=aR a3;have I:=af (ae (h1.au K2) (K1.trans K2));clear hc aI aS K1 K2 h1 x3 a3;generalize (w1.alloc (.cells lj 236)).setRow w1.heap.size (iE ol k).toArray=w2 at*;generalize w1.heap.size=nb at*
 have d3:w2.cell? ⟨nb,3,none⟩=some (.int .i64 k.at_):=by rw[World.cell?,O];rfl
 have d4:w2.cell? ⟨nb,4,none⟩=some (.int .i64 k.steps):=by rw[World.cell?,O,<-e4];rfl
 have c3:w2.cell? _=some (.slice (some ⟨p.gb,0,none⟩) x.ah.length x.ah.length):=I.out.1.cell 3;have c1:_=some av:=I.out.1.cell 1;obtain⟨ao,cap,a1⟩:=bn I.out.1.row;rw[a1]at c1;have a0:=af a1;clear a1;simp only[Act.put]
 have ba:k.steps=0\/k.steps=1\/k.steps=2:=by omega
 rcases ba with hs|hs|hs
 ·rw[hs]at d4
  rcases X.out.YB hu hk hs with⟨q,e,F⟩|⟨q1,q2,e,F,ad⟩|⟨n,hn,q1,q2,e,F,ad⟩
  ·have HS:=af (ae e F)
   have g1:¬k.at_<0:=by have:=X.out.pos;omega
   have g2:(all.length:Int)<=k.at_:=by omega
   clear e F sH;have E:=af (vQ w2 I.out.1 14 (by omega));clear X
   go_wp2_with fail
   refine hm E ?_;rintro y J ⟨rfl,K3⟩;have lC:=an J (.cells aH 64);have aO:=ax (J.alloc (.cells aH 64)) J.heap.size aH (bJ (xu all.length 14)) 64 (0,0) lC;have K4:Kp (λ_=>False) J ((J.alloc (.cells aH 64)).setRow J.heap.size (bJ (xu all.length 14))):=((Kp.refl _ _).alloc _).setRow (λx=>by omega) _;have KB:=K3.trans K4;have aj:=KB.at_ Y (λx=>x);clear E K3 K4 c3
   go_upto_region 8 with(refine cj (bJ (xu all.length 14)) lC aQ rfl (cE _) ?_)
   generalize (J.alloc (.cells aH 64)).setRow J.heap.size (bJ (xu all.length 14))=w4 at*;have QF:=af (j8.dR I.out.2 D (j8.of (I.out.1.au KB) (KB.mono (λ_ _ x=>x.elim))) aj (bJ (xu all.length 14)));have am:=ax w4 w.heap.size aH (bJ (xu all.length 14)) 64 (0,0) aj
   go_wp2_with (first|refine jO aO aa eJ aQ ?_|refine cj (bJ (xu all.length 14)) aj aQ rfl (cE _) ?_)
   refine oR am aa eJ aQ ?_;exact Ab.of HS.out.1 rfl QF.out HS.out.2 rfl rfl (by omega) (by omega) (cJ _)
  ·have HS:=af (ae e F)
   obtain⟨n,hn⟩:∃n:Nat,k.at_=(n:Int):=⟨k.at_.toNat,by omega⟩
   rw[hn]at d3 ad
   have g1:¬(n:Int)<0:=by omega
   have g2:¬(all.length:Int)<=(n:Int):=by omega
   have EK:=af (wW w2 I.out.1 n (by omega) (by omega) h6);rw[show((n:Int)).toNat=n by omega]at ad;rw[ad]at EK;clear e F sH ad
   go_wp2_with fail
   refine hm EK ?_;rintro y w9 ⟨rfl,K9⟩;replace I:=af (ae (I.out.1.au K9) (I.out.2.trans K9));replace Y:=K9.at_ Y (λx=>x);replace c3:=K9.bX c3;clear EK K9 c1 d3 d4 O;clear w2
   revert w9
   intro w2 I Y c3;have E:=af (vQ w2 I.out.1 15 (by omega));clear X
   go_wp2_with fail
   refine hm E ?_;rintro y J ⟨rfl,K3⟩;have lC:=an J (.cells aH 64);have aO:=ax (J.alloc (.cells aH 64)) J.heap.size aH (bJ (xu all.length 15)) 64 (0,0) lC;have K4:Kp (λ_=>False) J ((J.alloc (.cells aH 64)).setRow J.heap.size (bJ (xu all.length 15))):=((Kp.refl _ _).alloc _).setRow (λx=>by omega) _;have KB:=K3.trans K4;have aj:=KB.at_ Y (λx=>x);clear E K3 K4 c3
   go_upto_region 12 with(refine cj (bJ (xu all.length 15)) lC aQ rfl (cE _) ?_)
   generalize (J.alloc (.cells aH 64)).setRow J.heap.size (bJ (xu all.length 15))=w4 at*;have QF:=af (j8.dR I.out.2 D (j8.of (I.out.1.au KB) (KB.mono (λ_ _ x=>x.elim))) aj (bJ (xu all.length 15)));have am:=ax w4 w.heap.size aH (bJ (xu all.length 15)) 64 (0,0) aj
   go_wp2_with (first|refine jO aO aa eJ aQ ?_|refine cj (bJ (xu all.length 15)) aj aQ rfl (cE _) ?_)
   refine oR am aa eJ aQ ?_;exact Ab.of HS.out.1 rfl QF.out HS.out.2 rfl rfl (by omega) (by omega) (cJ _)
  have HS:=af (ae e F);have HQ:=af (ae q1 q2)
  have g2:¬(all.length:Int)<=(n:Int):=by omega
  have EK:=af (wW w2 I.out.1 n hn (by omega) h6);rw[ad]at EK;clear e F ad q1 q2
  go_upto_if 25 with(fail)
  go_cut [7,25]from 26 to 31 (λv _ wx=>v= .int .i64 n/\wx=w2)
  case first=>
   by_cases qa:k.at_<0
   ·have H7:=af (HQ.out.2 qa)
    go_wp2
    go_meet
    exact⟨by rw[H7.out],rfl⟩
   have H7:=af (HQ.out.1 (by omega));go_wp2
   go_meet
   exact⟨by rw[H7.out],rfl⟩
  case rest=>
   obtain⟨rfl,rfl⟩:=hcut
   go_wp2_with fail
   refine hm EK ?_;rintro y J ⟨rfl,K3⟩;have h3:=I.out.1.au K3
   have a4:(aA x u {k with pinned:=(n:Int)}).ah[u]? =some {k with pinned:=(n:Int)}:=by simp[aA,a8]
   have h4:=h3.Nc (t':={k with pinned:=(n:Int)}) hu 6 (by omega) (.int .i64 n) rfl;have h5:=h4.Nc (t':={k with steps:=1,pinned:=(n:Int)}) a4 4 (by omega) (.int .i64 1) (by unfold iE;rw[sH {k with steps:=1,pinned:=(n:Int)} hk];rfl);have K5:=((K3.mono (S':=zO p av) (λ_ _ x=>x.elim)).setCell (p:=⟨p.gb,u*14+6,none⟩) (λ_=>.inr (.inl rfl)) (.int .i64 n)).setCell (p:=⟨p.gb,u*14+4,none⟩) (λ_=>.inr (.inl rfl)) (.int .i64 1);have y3:J.cell? _=some (.slice (some ⟨p.gb,0,none⟩) x.ah.length x.ah.length):=h3.cell 3;have y6:J.cell? ⟨p.gb,u*14+6,none⟩=some _:=h3.ew hu (by omega);have f6:=h3.pf (u*14+6)
   have z3:(J.setCell ⟨p.gb,u*14+6,none⟩ (.int .i64 n)).cell? ⟨p.yb,3,none⟩=some (.slice (some ⟨p.gb,0,none⟩) x.ah.length x.ah.length):=by rw[h4.cell 3];simp[Gm,aA]
   have z4:(J.setCell ⟨p.gb,u*14+6,none⟩ (.int .i64 n)).cell? ⟨p.gb,u*14+4,none⟩=some (.int .i64 0):=(h4.ew a4 (by omega)).trans (by show some (Value.int .i64 (jy {k with pinned:=(n:Int)}:Nat))=_;rw[sH {k with pinned:=(n:Int)} hk];show some (Value.int .i64 (k.steps:Nat))=_;rw[hs];rfl);have f4:=h4.pf (u*14+4);have hx:=h5.eqv (x':={x with kept:=dD all (x.ah.set u {k with steps:=1,pinned:=(n:Int)}),ah:=x.ah.set u {k with steps:=1,pinned:=(n:Int)}}) (by simp[aA]) rfl;have Z:=af (ae hx K5);clear EK K3 h3 h4 h5 K5 c3 d3 hx a4
   go_upto_region 14 with(fail)
   generalize J.setCell ⟨p.gb,u*14+6,none⟩ (.int .i64 n)=w4 at*
   go_upto_region 15 with(fail)
   have oW:=Z.out.2.at_ Y (λs=>by have:=D _ s;omega);have ap:=Z.out.2.at_ O (λs=>by have:=D _ s;omega);clear z3 z4 f4 y3 y6 f6 d4;generalize w4.setCell ⟨p.gb,u*14+4,none⟩ (.int .i64 1)=U at*
   have d4:U.cell? ⟨nb,4,none⟩=some (.int .i64 0):=by rw[World.cell?,ap,<-show(k.steps:Int)=0 by omega,<-e4];rfl
   have QF:=af (j8.dR I.out.2 D (j8.of Z.out.1 Z.out.2) oW (bJ dT));have rH:=ax U w.heap.size aH (bJ dT) 64 (0,0) oW;clear hs e4
   go_wp2_with (refine cj (bJ dT) oW aQ rfl (cE _) ?_)
   refine oR rH aa eJ aQ ?_;exact Ab.of HS.out.1 rfl QF.out HS.out.2 rfl rfl (by omega) (by omega) (cJ _)
 ·obtain⟨e,F⟩:=X.out.YC hu hk hs
  have HS:=af (ae e F);rw[hs]at d4;have h5:=I.out.1.Nc (t':={k with steps:=2}) hu 4 (by omega) (.int .i64 2) (by unfold iE;rw[sH {k with steps:=2} hk];rfl);have K5:=(Kp.refl (zO p av) w2).setCell (p:=⟨p.gb,u*14+4,none⟩) (λ_=>.inr (.inl rfl)) (.int .i64 2);have z4:w2.cell? ⟨p.gb,u*14+4,none⟩=some (.int .i64 1):=(I.out.1.ew hu (by omega)).trans (by show some (Value.int .i64 (jy k:Nat))=_;rw[e4,hs];rfl);have f4:=I.out.1.pf (u*14+4);have Z:=af (ae h5 K5);clear h5 K5 e F c1 d3 X sH
  go_upto_region 15 with(fail)
  have oW:=Z.out.2.at_ Y (λs=>by have:=D _ s;omega);have ap:=Z.out.2.at_ O (λs=>by have:=D _ s;omega);clear z4 f4 d4 c3;generalize w2.setCell ⟨p.gb,u*14+4,none⟩ (.int .i64 2)=U at*
  have d4:U.cell? ⟨nb,4,none⟩=some (.int .i64 1):=by rw[World.cell?,ap,<-show(k.steps:Int)=1 by omega,<-e4];rfl
  have QF:=af (j8.dR I.out.2 D (j8.of Z.out.1 Z.out.2) oW (bJ dT));have rH:=ax U w.heap.size aH (bJ dT) 64 (0,0) oW;clear hs e4
  go_wp2_with (refine cj (bJ dT) oW aQ rfl (cE _) ?_)
  refine oR rH aa eJ aQ ?_;exact Ab.of HS.out.1 rfl QF.out HS.out.2 rfl rfl (by omega) (by omega) (cJ _)
 obtain⟨n,hn,a9,e,F⟩:=X.out.YD hu hk hs;have HS:=af (ae e F);rw[hs]at d4
 obtain⟨s,a6⟩:∃s,all[n]? =some s:=⟨_,ar a9⟩
 have a5:all.getD n wS=s:=by rw[lL,a6];rfl
 rw[a5]at HS;have h5:=I.out.1.Nc (t':={k with steps:=3}) hu 4 (by omega) (.int .i64 3) (by unfold iE;rw[sH {k with steps:=3} hk];rfl);have K5:=(Kp.refl (zO p av) w2).setCell (p:=⟨p.gb,u*14+4,none⟩) (λ_=>.inr (.inl rfl)) (.int .i64 3);have z4:w2.cell? ⟨p.gb,u*14+4,none⟩=some (.int .i64 2):=(I.out.1.ew hu (by omega)).trans (by show some (Value.int .i64 (jy k:Nat))=_;rw[e4,hs];rfl);have f4:=I.out.1.pf (u*14+4);have Z:=af (ae h5 K5);clear h5 K5 e F c1 d3 X sH a5
 go_upto_region 15 with(fail)
 have oW:=Z.out.2.at_ Y (λs=>by have:=D _ s;omega);have ap:=Z.out.2.at_ O (λs=>by have:=D _ s;omega);clear z4 f4 d4 c3;generalize w2.setCell ⟨p.gb,u*14+4,none⟩ (.int .i64 3)=U at*
 have d4:U.cell? ⟨nb,4,none⟩=some (.int .i64 2):=by rw[World.cell?,ap,<-show(k.steps:Int)=2 by omega,<-e4];rfl
 have d6:U.drew.cell? ⟨nb,6,none⟩=some (.int .i64 n):=by rw[<-hn];show U.cell? _=_;rw[World.cell?,ap];rfl
 obtain⟨g,bb,hv,xc⟩:=Z.out.1.IS a6;rw[a0.out]at hv;simp only[aK,bS]at hv;obtain⟨rfl,rfl⟩:=hv
 have x1:U.drew.cell? ⟨p.yb,1,none⟩=some (.slice (some ⟨g,0,none⟩) all.length cap):=by rw[<-a0.out];exact Z.out.1.cell 1
 have QF:=af (j8.dR I.out.2 D (j8.of (Z.out.1.au (Kp.refl _ _).drew) Z.out.2.drew) oW (bJ {dT with kZ:=(n:Int),st:=bV ol.ai s}));have rH:=ax U.drew w.heap.size aH (bJ {dT with kZ:=(n:Int),st:=bV ol.ai s}) 64 (0,0) oW
 have V3:(n:Int)<(all.length:Int):=by omega
 have sL:_=some (pO (bV ol.ai s)).length:=eC
 have G:U.drew.cell? ⟨nb,6,none⟩=some (.int .i64 n)/\U.drew.cell? ⟨p.yb,1,none⟩=some (.slice (some ⟨g,0,none⟩) all.length cap)/\(∀j u,(pO (bV ol.ai s))[j]? =some u->U.drew.cell? ⟨g,n*6+j,none⟩=some u):=⟨d6,x1,xc⟩
 have KR:=(Kp.refl (λk=>k=w.heap.size) U.drew).setRow (g:=w.heap.size) (λ_=>rfl) (bJ {dT with kZ:=(n:Int),st:=bV ol.ai s})
 have ub:(U.drew.setRow w.heap.size (bJ {dT with kZ:=(n:Int),st:=bV ol.ai s})).cell? ⟨nb,6,none⟩=some (.int .i64 n)/\(U.drew.setRow w.heap.size (bJ {dT with kZ:=(n:Int),st:=bV ol.ai s})).cell? ⟨p.yb,1,none⟩=some (.slice (some ⟨g,0,none⟩) all.length cap)/\(∀j u,(pO (bV ol.ai s))[j]? =some u->(U.drew.setRow w.heap.size (bJ {dT with kZ:=(n:Int),st:=bV ol.ai s})).cell? ⟨g,n*6+j,none⟩=some u):=by
  have a2:∀{b i:Nat} {v:Value},b≠w.heap.size->U.drew.cell? ⟨b,i,none⟩=some v->(U.drew.setRow w.heap.size (bJ {dT with kZ:=(n:Int),st:=bV ol.ai s})).cell? ⟨b,i,none⟩=some v:=λhb hv=>by rw[<-hv];exact jC (cG _ _ _ _ hb)
  exact⟨a2 (by omega) G.1,a2 (by have:=D _ (.inl rfl);omega) G.2.1,λj u hj=>a2 (by have:=D g (.inr (.inr (by rw[a0.out];rfl)));omega) (G.2.2 j u hj)⟩
 clear hs e4 KR
 go_upto_region 17 with(fail)
 refine bf (λw'=>w'.cell? ⟨nb,6,none⟩=some (.int .i64 n)/\w'.cell? ⟨p.yb,1,none⟩=some (.slice (some ⟨g,0,none⟩) all.length cap)/\(∀j u,(pO (bV ol.ai s))[j]? =some u->w'.cell? ⟨g,n*6+j,none⟩=some u)) (by kernel_rfl) ?_;refine bM 0 73 (.pointer (some ⟨nb,6,none⟩)) G ?_;refine eG 1 74 (.int .i64 n) rfl (λw' hS=>by simp[execOp,Act.eval,go_sem,hS.1]) G ?_;refine bM 2 75 (.pointer (some ⟨p.yb,0,none⟩)) G ?_;refine bM 3 76 (.pointer (some ⟨p.yb,0,none⟩)) G ?_;refine bM 4 77 (.pointer (some ⟨p.yb,1,none⟩)) G ?_;refine eG 5 78 (.slice (some ⟨g,0,none⟩) all.length cap) rfl (λw' hS=>by simp[execOp,Act.eval,go_sem,hS.2.1]) G ?_;refine bM 6 79 (.pointer (some ⟨nb,6,none⟩)) G ?_;refine eG 7 80 (.int .i64 n) rfl (λw' hS=>by simp[execOp,Act.eval,go_sem,hS.1]) G ?_;refine eG 8 81 (.pointer (some ⟨g,n*6,none⟩)) rfl (λw' _=>by simp[execOp,Act.eval,go_sem,V3]) G ?_;refine eG 9 82 (.agg (dX (bV ol.ai s))) rfl (λw' hS=>eo 26 (.tmp 81) rfl g (n*6) rfl (pO (bV ol.ai s)) da hS.2.2 sZ jY sL) G ?_;refine eG 10 83 (.agg (bJ {dT with kZ:=(n:Int),st:=bV ol.ai s})) rfl (λw' _=>fA 64 #[(1,.tmp 74),(4,.tmp 82)] rfl (bJ {dT with kZ:=(n:Int),st:=bV ol.ai s}) [(1,.int .i64 n),(4,.agg (dX (bV ol.ai s)))] (by simp[Act.eval]) (Qj n (bV ol.ai s))) G ?_
 refine cK 11 (by kernel_rfl) rfl rfl 64 (.tmp 4) (.tmp 83) rfl rfl w.heap.size (bJ {dT with kZ:=(n:Int),st:=bV ol.ai s}) (by simp[Act.eval]) (by simp[Act.eval]) 64 aH oW aQ rfl (cE _) ub ?_;refine bM 12 5 (.bool true) ub ?_;refine bF (by kernel_rfl) (bG ?_) _
 go_wp2_with fail
 refine oR rH aa eJ aQ ?_;exact Ab.of HS.out.1 rfl QF.out HS.out.2 rfl (by simp[aA]) (by omega) (by omega) (cJ _)
