import Derived.Test.YtnlbchmfcebeeaaGreatTOf
set_option maxHeartbeats 12800000
set_option maxRecDepth 100000
namespace Go.Proofs.YtnlbchmfcebeeaaGreat
open Go.Proofs.Tryz Ch
open Go.RowKit
namespace Ch
section
variable {t:ByteArray} {ol:Ol} {x:Sv} {all:List Sd} {log:ByteArray} {u:Nat} {k:Tk}
theorem SI.ask(h:SI ol x all log)(hu:x.tasks[u]? =some k)(hk:k.kind=0){r:Rq}(hr:mT r=true):SI ol (ay x u (vM r)) all log:=by
 have e:=(h.tk u k hu).idle hk;subst e
 have hn:r.kind≠0:=by rcases uQ hr with e|e|e|e<;>omega
 refine h.set hu (λm=>by rw[uh,vQ rfl]) ?_ rfl (λd=>by simp[fB]at d);exact⟨λe=>absurd (show r.kind=0 from e) hn,λ_=>hr,λd=>by simp[vM,fB]at d,by simp[vM,fB],λ_=>rfl,λ_ e=>by simp[vM,fB]at e,λ_=>rfl,λe=>by simp[vM,fB]at e⟩
theorem abg(hR:qw t ol)(hm:(mstart ol).2.2=0){n:Nat}(hn:n<=6):SI ol (lE ol n) [(mstart ol).1] (mstart ol).2.1:=by
 have hp:dK (List.replicate n fB) 0=0:=by
  unfold dK;apply List.countP_eq_zero.2;intro a ha;rw[List.eq_of_mem_replicate ha,uh];simp
 have hk:=zq (all:=[]) (l:=List.replicate n fB) (mstart ol).1 hp
 have ht:∀(i:Nat) (a:Tk),(List.replicate n fB)[i]? =some a->a=fB:=by
  intro i a ha;exact List.eq_of_mem_replicate (List.mem_of_getElem? ha)
 refine⟨rfl,by simp,?_,?_,?_,?_,by simpa[lE,j1]using hn,?_,?_,?_,Nat.le_refl _⟩
 ·exact hk
 ·intro s hs;simp at hs;subst hs;exact rH hR hm
 ·show 0+(mstart ol).2.1.size=_;omega
 ·have:=LX ⟨#[]⟩ (mstart ol).2.1
  have e0:((⟨#[]⟩:ByteArray)++(mstart ol).2.1)=(mstart ol).2.1:=by apply ByteArray.ext;simp[ByteArray.data_append]
  rw[e0]at this;exact this
 ·intro i a ha
  rw[ht i a ha];exact Q0 _ _ _ _
 ·intro i j ti tj hi hj di
  rw[ht i ti hi]at di;simp[fB]at di
 intro m h1 h2;have:m<0:=h2;omega
end
structure LR(ol:Ol)(x:Sv)(all:List Sd)(log:ByteArray)(L:Ln):Prop where
 al:L.all=all.map (aH ol.ag)
 lg:L.log=log
 ls:L.stands.length=x.tasks.length
 la:L.asked.length=x.tasks.length
 ll:L.latest.length=x.tasks.length
 lp:L.steps.length=x.tasks.length
 tk:∀(u:Nat) (k:Tk),x.tasks[u]? =some k->∃l s,L.stands[u]? =some (decide (k.kind≠0))/\L.latest[u]? =some l/\L.steps[u]? =some s/\0<=s/\
  (k.kind≠0->L.asked[u]? =some ⟨k.kind,k.events,k.at_⟩/\0<=l/\l<=(all.length:Int)-1/\(k.kind=3->s=(k.steps:Int)/\(1<=k.steps->k.at_<0->l<=k.pinned)))
section
variable {ol:Ol} {x:Sv} {all:List Sd} {log:ByteArray} {L:Ln}
theorem LR.reads(r:LR ol x all log L):∀i,i<=x.tasks.length->Q_ L i=readsOf (x.tasks.take i):=by
 intro i
 induction i with
 |zero=>intro _;rfl
 |succ i ih=>?_
 intro hi
 obtain⟨k,hk⟩:∃k,x.tasks[i]? =some k:=⟨_,List.getElem?_eq_getElem (by omega)⟩
 obtain⟨l,s,h1,_,h3,_,h5⟩:=r.tk i k hk
 have e1:x.tasks.take (i+1)=x.tasks.take i++[k]:=by
  obtain⟨a,b⟩:=List.getElem?_eq_some_iff.1 hk;rw[<-b,List.take_append_getElem a]
 have e2:Q_ L (i+1)=Q_ L i+(if rdB L i then 1 else 0):=rfl;rw[e2,e1,ih (by omega)];unfold readsOf;rw[List.countP_append,List.countP_singleton]
 congr 1
 have:rdB L i=(decide (k.kind=3)&&decide (1<=k.steps)):=by
  unfold rdB;simp only[List.getD_eq_getElem?_getD,h1,h3,Option.getD_some]
  by_cases q:k.kind=0
  ·simp[q]
  obtain⟨g1,_,_,g4⟩:=h5 q;rw[g1];simp only[Option.getD_some]
  by_cases q3:k.kind=3
  ·have:=(g4 q3).1
   subst this;simp[q3];omega
  simp[q3]
 rw[this]
theorem LR.held(r:LR ol x all log L)(h:SI ol x all log):acg L (x.kept.map Vr.num):=by
 have hN:x.kept.map Vr.num=ug all.length x.tasks:=by rw[h.kept];exact CQ _ _
 have hl:L.all.length=all.length:=by rw[r.al,List.length_map]
 have hk:=FN all.length x.tasks
 have hrd:Q_ L L.stands.length=readsOf x.tasks:=by
  rw[r.ls,r.reads _ (Nat.le_refl _),List.take_length]
 rw[hN];refine⟨by rw[hl];exact h.pos,by rw[hl];exact hk.1,by rw[hl,hrd];exact hk.2,λm hm=>by rw[hl];exact Yu hm,PI _ _,?_,by rw[r.la,r.ls],by rw[r.lp,r.ls],by rw[r.ls];exact h.len⟩;rw[hl];exact Yv _ h.pos
end
section
variable {t:ByteArray} {ol:Ol}
theorem C2(hR:qw t ol){s:Sd}(g:Good ol s){ev:ByteArray}{i:Nat}(hi:i<ev.size)(he:bR (af ev i)=true):
 mz t (aH ol.ag s) (ev.extract i (i+1))=if(aQ ol s (af ev i)).2.2 !=0 then(dX,⟨#[]⟩,(aQ ol s (af ev i)).2.2)else(aH ol.ag (aQ ol s (af ev i)).1,(aQ ol s (af ev i)).2.1,0):=by
 obtain⟨e1,e2⟩:=g.lg hR;unfold mz;rw[e1,e2,hR.rd,L3 hi,he];rw[show decide ((ev.extract i (i+1)).size=1)=true from decide_eq_true (xE hi)];simp only[bne_self_eq_false,Bool.false_eq_true,if_false,Bool.and_self,if_true]
theorem PM(hR:qw t ol){s:Sd}(g:Good ol s):gV 17 t (aH ol.ag s)=(aH ol.ag (vX ol s).1,(vX ol s).2,0):=by
 obtain⟨e1,e2⟩:=g.lg hR;have hw:=xB (g.wait hR);unfold gV;rw[e1,e2,hR.rd];simp only[bne_self_eq_false,Bool.false_eq_true,if_false,hw]
end
theorem C3{α:Type}{l:List α}{u:Nat}{b:α}(h:l[u]? =some b):l.set u b=l:=by
 obtain⟨a,e⟩:=List.getElem?_eq_some_iff.1 h;rw[<-e,List.set_getElem_self]
theorem oP{α:Type}{l:List α}{u i:Nat}{b a:α}(h:l[i]? =some a):(l.set u b)[i]? =some (if i=u then b else a):=by
 have hl:=(List.getElem?_eq_some_iff.1 h).1;rw[List.getElem?_set]
 by_cases e:u=i
 ·subst e;simp[hl]
 rw[if_neg e,if_neg (λx=>e x.symm)];exact h
section
variable {ol:Ol} {x x':Sv} {all all':List Sd} {log uk:ByteArray} {L L':Ln} {u:Nat} {k k':Tk}
theorem LR.upd(r:LR ol x all log L)(hu:x.tasks[u]? =some k)(ht:x'.tasks=x.tasks.set u k')(hle:all.length<=all'.length)(e1:L'.all=all'.map (aH ol.ag))(e2:L'.log=uk)(e3:L'.stands=L.stands.set u (decide (k'.kind≠0)))(e4:L'.asked=L.asked)(e5:L'.latest=L.latest){s':Int}(e6:L'.steps=L.steps.set u s')(hs:0<=s')
 (hk:k'.kind≠0->k'.kind=k.kind/\k'.events=k.events/\k'.at_=k.at_/\(k.kind=3->s'=(k'.steps:Int)/\∀l,L.latest[u]? =some l->1<=k'.steps->k.at_<0->l<=k'.pinned)):LR ol x' all' uk L':=by
 refine⟨e1,e2,by rw[e3,ht,List.length_set,List.length_set];exact r.ls,by rw[e4,ht,List.length_set];exact r.la,by rw[e5,ht,List.length_set];exact r.ll,by rw[e6,ht,List.length_set,List.length_set];exact r.lp,?_⟩;intro i a ha;rw[ht]at ha
 rcases fK ha with⟨rfl,rfl⟩|⟨ni,ha⟩
 ·obtain⟨l,s,h1,h2,h3,h4,h5⟩:=r.tk i k hu
  refine⟨l,s',?_,by rw[e5];exact h2,?_,hs,?_⟩
  ·rw[e3,oP h1,if_pos rfl]
  ·rw[e6,oP h3,if_pos rfl]
  intro h0;obtain⟨g1,g2,g3,g4⟩:=hk h0;obtain⟨f1,f2,f3,_⟩:=h5 (by rw[<-g1];exact h0);refine⟨by rw[e4,g1,g2,g3];exact f1,f2,by omega,λq=>?_⟩;rw[g1]at q;obtain⟨m1,m2⟩:=g4 q;exact⟨m1,λc1 c2=>m2 l h2 c1 (by rw[<-g3];exact c2)⟩
 obtain⟨l,s,h1,h2,h3,h4,h5⟩:=r.tk i a ha;refine⟨l,s,?_,by rw[e5];exact h2,?_,h4,?_⟩
 ·rw[e3,oP h1,if_neg ni]
 ·rw[e6,oP h3,if_neg ni]
 intro h0;obtain⟨f1,f2,f3,f4⟩:=h5 h0;exact⟨by rw[e4];exact f1,f2,by omega,f4⟩
theorem LR.ask(r:LR ol x all log L)(hu:x.tasks[u]? =some k)(hp:0<all.length){q:Rq}(hq:q.kind≠0):LR ol (ay x u (vM q)) all log (UZ L u q):=by
 have hl:L.all.length=all.length:=by rw[r.al,List.length_map]
 refine⟨r.al,r.lg,by simp[UZ,ay,r.ls],by simp[UZ,ay,r.la],by simp[UZ,ay,r.ll],by simp[UZ,ay,r.lp],?_⟩;intro i a ha;obtain⟨hlt,_⟩:=List.getElem?_eq_some_iff.1 hu
 rcases fK ha with⟨rfl,rfl⟩|⟨ni,ha⟩
 ·have g:∀{α:Type} (l:List α) (b:α),l.length=x.tasks.length->(l.set i b)[i]? =some b:=by
   intro α l b e;rw[List.getElem?_set_self (by omega)]
  refine⟨(all.length:Int)-1,0,?_,?_,?_,Int.le_refl _,?_⟩
  ·show(L.stands.set i true)[i]? =_
   rw[g _ _ r.ls];simp[vM,hq]
  ·show(L.latest.set i ((L.all.length:Int)-1))[i]? =_
   rw[g _ _ r.ll,hl]
  ·exact g _ _ r.lp
  intro _;refine⟨g _ _ r.la,by omega,Int.le_refl _,λ_=>⟨rfl,λc=>by simp[vM,fB]at c⟩⟩
 obtain⟨l,s,h1,h2,h3,h4,h5⟩:=r.tk i a ha;refine⟨l,s,?_,?_,?_,h4,?_⟩
 ·show(L.stands.set u true)[i]? =_
  rw[oP h1,if_neg ni]
 ·show(L.latest.set u _)[i]? =_
  rw[oP h2,if_neg ni]
 ·show(L.steps.set u 0)[i]? =_
  rw[oP h3,if_neg ni]
 intro h0;obtain⟨f1,f2,f3,f4⟩:=h5 h0;refine⟨?_,f2,f3,f4⟩;show(L.asked.set u q)[i]? =_;rw[oP f1,if_neg ni]
theorem LR.new(ol:Ol)(n:Nat):LR ol (lE ol n) [(mstart ol).1] (mstart ol).2.1 (DY (aH ol.ag (mstart ol).1) (mstart ol).2.1 n):=by
 refine⟨rfl,rfl,by simp[DY,lE,j1],by simp[DY,lE,j1],by simp[DY,lE,j1],by simp[DY,lE,j1],?_⟩;intro i a ha;have ha':(List.replicate n fB)[i]? =some a:=ha;have e:=List.eq_of_mem_replicate (List.mem_of_getElem? ha')
 have hl:i<n:=by have:=(List.getElem?_eq_some_iff.1 ha').1;simpa using this
 subst e;refine⟨0,0,by simp[DY,hl,fB],by simp[DY,hl],by simp[DY,hl],Int.le_refl _,λh=>absurd rfl h⟩
end
theorem Rc(b:ByteArray){i j m:Nat}(h1:i<=j)(h2:j<=m):(b.extract i b.size).extract (j-i) (m-i)=b.extract j m:=by
 apply ByteArray.ext;apply Array.toList_inj.1;rw[ByteArray.data_extract,Array.toList_extract,Ap,ByteArray.data_extract,Array.toList_extract,List.extract_eq_take_drop,List.extract_eq_take_drop,List.drop_drop]
 congr 1
 ·omega
 congr 1;omega
theorem SI.ahB{ol:Ol}{x:Sv}{all:List Sd}{log:ByteArray}(h:SI ol x all log){a:Int}(ha:0<=a):
 ((log.size:Int)<a/\qU x a={dR with err:=14,ia:=(all.length:Int)-1})\/
 (a<(log.size:Int)-24/\qU x a={dR with err:=15,ia:=(all.length:Int)-1})\/
 (a<=(log.size:Int)/\(log.size:Int)-24<=a/\qU x a={dR with ia:=(all.length:Int)-1,next:=(if a+8<(log.size:Int)then a+8 else(log.size:Int)),text:=log.extract a.toNat (if a+8<(log.size:Int)then a+8 else(log.size:Int)).toNat}):=by
 have hT:x.tail.size=log.size-(log.size-24):=by rw[h.tail,ByteArray.size_extract];omega
 by_cases c1:(log.size:Int)<a
 ·left
  refine⟨c1,?_⟩
  have e:gu x.joined x.tail a=(⟨#[]⟩,14):=by unfold gu;rw[h.joined,if_pos c1]
  unfold qU;rw[e,if_pos (by decide)];unfold ib;rw[h.made]
 right
 by_cases c2:a<(log.size:Int)-(x.tail.size:Int)
 ·left
  refine⟨by omega,?_⟩
  have e:gu x.joined x.tail a=(⟨#[]⟩,15):=by unfold gu;rw[h.joined,if_neg c1,if_pos c2]
  unfold qU;rw[e,if_pos (by decide)];unfold ib;rw[h.made]
 right
 refine⟨by omega,by omega,?_⟩
 have hi:(a-((log.size:Int)-(x.tail.size:Int))).toNat=a.toNat-(log.size-24):=by omega
 have e:gu x.joined x.tail a=(log.extract a.toNat (if a+8<(log.size:Int)then a+8 else(log.size:Int)).toNat,0):=by
  unfold gu;rw[h.joined,if_neg c1,if_neg c2,hi]
  by_cases c3:a+8<(log.size:Int)
  ·rw[if_pos (by omega),if_pos c3,h.tail,show a.toNat-(log.size-24)+8=(a.toNat+8)-(log.size-24)by omega,Rc log (by omega) (by omega),show(a+8).toNat=a.toNat+8 by omega]
  rw[if_neg (by omega),if_neg c3,hT,h.tail,Rc log (by omega) (by omega)];rfl
 have hz:(log.extract a.toNat (if a+8<(log.size:Int)then a+8 else(log.size:Int)).toNat).size=(if a+8<(log.size:Int)then a+8 else(log.size:Int)).toNat-a.toNat:=by
  rw[ByteArray.size_extract]
  split<;>omega
 unfold qU;rw[e,if_neg (by simp),h.made];simp only;rw[hz]
 congr 1
 split<;>omega
def Re(ol:Ol)(s:Sd)(ev:ByteArray):Nat->Sd
 |0=>s
 |i+1=>(aQ ol (Re ol s ev i) (af ev i)).1
def PN(ol:Ol)(s:Sd)(ev:ByteArray):Nat->ByteArray
 |0=>⟨#[]⟩
 |i+1=>PN ol s ev i++(aQ ol (Re ol s ev i) (af ev i)).2.1
theorem FV{ol:Ol}{s:Sd}{ev:ByteArray}:∀{i:Nat} {r:Sd×ByteArray},gT ol s ev i=some r->r=(Re ol s ev i,PN ol s ev i)/\∀j,j<i->(aQ ol (Re ol s ev j) (af ev j)).2.2=0:=by
 intro i
 induction i with
 |zero=>intro r h;simp[gT]at h;subst h;exact⟨rfl,λj hj=>by omega⟩
 |succ i ih=>?_
 intro r h;simp only[gT]at h
 cases q:gT ol s ev i with
 |none=>rw[q]at h;simp at h
 |some r0=>?_
 rw[q]at h;simp only at h;obtain⟨e,hj⟩:=ih q;subst e;simp only at h
 split at h
 ·rename_i c
  simp at h;subst h;refine⟨rfl,λj hj'=>?_⟩
  by_cases e:j=i
  ·subst e;simpa using c
  exact hj j (by omega)
 simp at h
theorem Md{t:ByteArray}{ol:Ol}(hR:qw t ol){s:Sd}(g:Good ol s){ev:ByteArray}:∀(i:Nat),(∀j,j<i->(aQ ol (Re ol s ev j) (af ev j)).2.2=0)->Good ol (Re ol s ev i):=by
 intro i
 induction i with
 |zero=>intro _;exact g
 |succ i ih=>intro h;exact mX hR (ih (λj hj=>h j (by omega))) (h i (by omega))
theorem yQ{ol:Ol}(hol:ol.Ok)(s:Sd)(ev:ByteArray):∀i,(PN ol s ev i).size<=230400*i:=by
 intro i
 induction i with
 |zero=>exact Nat.zero_le _
 |succ i ih=>?_
 have:=jW hol (Re ol s ev i) (af ev i);show(PN ol s ev i++_).size<=_;rw[ByteArray.size_append];omega
theorem PO{ol:Ol}{all:List Sd}(h:0<all.length):(all.map (aH ol.ag))[(all.map (aH ol.ag)).length-1]? =some (aH ol.ag (lastOf all)):=by
 rw[List.length_map,List.getElem?_map];unfold lastOf;rw[List.getD_eq_getElem?_getD,List.getElem?_eq_getElem (by omega)];rfl
end Ch
section
variable {t:ByteArray} {ol:Ol} {x:Sv} {all:List Sd} {log:ByteArray} {L:Ln} {u:Nat} {k:Tk}
def Me(p:Lp)(t:ByteArray)(ol:Ol)(x:Sv)(all:List Sd)(log:ByteArray)(L:Ln)(av:Value)(u:Nat):Prop:=
 ∃L' all' uk b s,L.stands[u]? =some b/\L.steps[u]? =some s/\0<=s/\SmP p t L L' av u b s (cZ ol x (u:Int)).2/\SI ol (cZ ol x (u:Int)).1 all' uk/\LR ol (cZ ol x (u:Int)).1 all' uk L'/\(all.length<=all'.length/\all'.length+x.turn<=all.length+(cZ ol x (u:Int)).1.turn)/\uk.size+4000000*all.length<=log.size+4000000*all'.length/\(cZ ol x (u:Int)).1.bA+all'.length<=x.bA+all.length+1/\(cZ ol x (u:Int)).1.tasks.length=x.tasks.length/\(L'.steps=L.steps\/L'.steps=L.steps.set u (s+1))
theorem PQ(h:SI ol x all log)(r:LR ol x all log L)(hu:x.tasks[u]? =some k)(hk:k.kind=0)(p:Lp)(av:Value):Me p t ol x all log L av u:=by
 obtain⟨l,s,h1,h2,h3,h4,h5⟩:=r.tk u k hu;have e:=vR (ol:=ol) hu hk;refine⟨L,all,log,_,s,h1,h3,h4,?_,by rw[e];exact h,by rw[e];exact r,⟨Nat.le_refl _,by rw[e];exact Nat.le_refl _⟩,Nat.le_refl _,by rw[e];exact Nat.le_succ _,by rw[e],.inl rfl⟩;rw[e];exact .inl ⟨by simp[hk],rfl,rfl,rfl⟩
theorem nZ(r:LR ol x all log L)(hu:x.tasks[u]? =some k)(hk:k.kind≠0)(p:Lp)(av:Value){x':Sv}{k':Tk}(e:cZ ol x (u:Int)=(x',dR,false,0))(h':SI ol x' all log)(ht:x'.tasks=x.tasks.set u k')(hk':k'.kind=k.kind/\k'.events=k.events/\k'.at_=k.at_)
 (h3r:k.kind=3->k'.steps=k.steps+1/\∀l,L.latest[u]? =some l->l<=(all.length:Int)-1->(1<=k.steps->k.at_<0->l<=k.pinned)->k.at_<0->l<=k'.pinned) (hti:x'.bA<=x.bA+1:=by first|exact Nat.le_succ _|exact Nat.le_refl _) (htu:x.turn<=x'.turn:=by exact Nat.le_refl _):Me p t ol x all log L av u:=by
 obtain⟨l,s,h1,h2,h3,h4,h5⟩:=r.tk u k hu;obtain⟨f1,f2,f3,f4⟩:=h5 hk;refine⟨{L with steps:=L.steps.set u (s+1)},all,log,_,s,h1,h3,h4,?_,by rw[e];exact h',?_,⟨Nat.le_refl _,by rw[e];exact Nat.add_le_add_left htu _⟩,Nat.le_refl _,by rw[e];simp only;omega,by rw[e];simp only;rw[ht,List.length_set],.inr rfl⟩
 ·rw[e]
  exact .inr (.inl ⟨by simp[hk],rfl,rfl,rfl,rfl⟩)
 rw[e];refine r.upd (k':=k') hu ht (Nat.le_refl _) r.al r.lg ?_ rfl rfl (s':=s+1) rfl (by omega) (λ_=>⟨hk'.1,hk'.2.1,hk'.2.2,λq=>?_⟩)
 ·rw[hk'.1];exact(C3 h1).symm
 obtain⟨g1,g2⟩:=f4 q;obtain⟨m1,m2⟩:=h3r q;refine⟨by rw[g1,m1];omega,λl' hl' _ c=>?_⟩;rw[h2]at hl';simp at hl';subst hl';exact m2 l h2 f3 g2 c
end
section
variable {t:ByteArray} {ol:Ol} {x:Sv} {all:List Sd} {log:ByteArray} {L:Ln} {u:Nat} {k:Tk}
theorem ke(r:LR ol x all log L)(hu:x.tasks[u]? =some k)(hk:k.kind≠0)(p:Lp)(av:Value){x':Sv}{rp:Rp}{all':List Sd}{uk:ByteArray}(e:cZ ol x (u:Int)=(x',rp,true,0))(h':SI ol x' all' uk)(ht:x'.tasks=x.tasks.set u fB)(hle:all.length<=all'.length)(hl1:all'.length<=all.length+1)(hl2:uk.size+4000000*all.length<=log.size+4000000*all'.length)
 (hD:∀s,Q8 p t {L with steps:=L.steps.set u s} {L with all:=all'.map (aH ol.ag),log:=uk,stands:=L.stands.set u false,steps:=L.steps.set u s} av u ⟨k.kind,k.events,k.at_⟩ rp) (hti:x'.bA<=x.bA:=by exact Nat.le_refl _) (htu:all'.length+x.turn<=all.length+x'.turn:=by first|exact Nat.le_refl _|(show _<=_+(_+1);first|omega|(rw[List.length_append];simp only[List.length_cons,List.length_nil];omega))):Me p t ol x all log L av u:=by
 obtain⟨l,s,h1,h2,h3,h4,h5⟩:=r.tk u k hu;obtain⟨f1,f2,f3,f4⟩:=h5 hk;refine⟨{L with all:=all'.map (aH ol.ag),log:=uk,stands:=L.stands.set u false,steps:=L.steps.set u (s+1)},all',uk,_,s,h1,h3,h4,?_,by rw[e];exact h',?_,⟨hle,by rw[e];exact htu⟩,hl2,by rw[e];simp only;omega,by rw[e];simp only;rw[ht,List.length_set],.inr rfl⟩
 ·rw[e]
  exact .inr (.inr ⟨by simp[hk],rfl,rfl,_,f1,hD (s+1)⟩)
 rw[e];exact r.upd (k':=fB) hu ht hle rfl rfl rfl rfl rfl (s':=s+1) rfl (by omega) (λq=>absurd rfl q)
theorem PR(h:SI ol x all log)(r:LR ol x all log L)(hu:x.tasks[u]? =some k)(hk:k.kind=4)(hm:all.length<=1900000000000)(hl:log.size<=7600000000000000000)(p:Lp)(av:Value):Me p t ol x all log L av u:=by
 obtain⟨e,h'⟩:=h.poll hu hk
 have hal:L.all.length=all.length:=by rw[r.al,List.length_map]
 have sD:=r.lg
 have ha:0<=k.at_:=by
  have:=(h.tk u k hu).rq (by rw[hk];decide);unfold mT at this;rw[if_neg (by show¬k.kind=1;rw[hk];decide),if_neg (by show¬k.kind=2;rw[hk];decide),if_neg (by show¬k.kind=3;rw[hk];decide),if_pos (by show k.kind=4;exact hk)]at this;simp only[Bool.and_eq_true,decide_eq_true_eq]at this;exact this.2
 refine ke r hu (by rw[hk];decide) p av e h' rfl (Nat.le_refl _) (by omega) (by omega) ?_;intro s;rw[<-r.al,<-sD];have hL':({L with all:=L.all,log:=L.log,stands:=L.stands.set u false,steps:=L.steps.set u s}:Ln)={{L with steps:=L.steps.set u s}with stands:=({L with steps:=L.steps.set u s}:Ln).stands.set u false}:=rfl
 rcases h.ahB ha with⟨c,e2⟩|⟨c,e2⟩|⟨c1,c2,e2⟩
 ·rw[e2]
  refine .inr (.inr (.inr ⟨hk,rfl,rfl,hL',λW hW=>?_⟩));have:=YA W hW ⟨k.kind,k.events,k.at_⟩ (by show(L.log.size:Int)<k.at_;rw[sD];exact c) (by show L.all.length<=_;omega);rw[<-hal];exact hid this
 ·rw[e2]
  refine .inr (.inr (.inr ⟨hk,rfl,rfl,hL',λW hW=>?_⟩));have:=YB W hW ⟨k.kind,k.events,k.at_⟩ (by show k.at_<(L.log.size:Int)-24;rw[sD];exact c) (by show L.all.length<=_;omega) (by show L.log.size<=_;rw[sD];omega);rw[<-hal];exact hid this
 rw[e2];refine .inr (.inr (.inr ⟨hk,rfl,rfl,hL',λW hW=>?_⟩));have:=YC W hW ⟨k.kind,k.events,k.at_⟩ (e:=if k.at_+8<(log.size:Int)then k.at_+8 else(log.size:Int)) ha (by show k.at_<=(L.log.size:Int);rw[sD];exact c1) (by show(L.log.size:Int)-24<=k.at_;rw[sD];exact c2) (by show _=if k.at_+8<(L.log.size:Int)then k.at_+8 else(L.log.size:Int);rw[sD]) (by show L.all.length<=_;omega) (by show L.log.size<=_;rw[sD];omega);rw[<-hal,<-sD];rw[<-sD]at this;exact hid this
theorem PS(h:SI ol x all log)(r:LR ol x all log L)(hu:x.tasks[u]? =some k)(hk:k.kind=3)(hm:all.length<=1900000000000)(p:Lp)(av:Value):Me p t ol x all log L av u:=by
 have hI:=h.tk u k hu
 have hal:L.all.length=all.length:=by rw[r.al,List.length_map]
 have sD:=r.lg
 have hk0:k.kind≠0:=by rw[hk];decide
 have hL':∀s,({L with all:=L.all,log:=L.log,stands:=L.stands.set u false,steps:=L.steps.set u s}:Ln)={{L with steps:=L.steps.set u s}with stands:=({L with steps:=L.steps.set u s}:Ln).stands.set u false}:=λ_=>rfl
 have hst:=hI.st
 rcases(show k.steps=0\/k.steps=1\/k.steps=2 by omega)with hs|hs|hs
 ·rcases h.ab7 hu hk hs with⟨c,e,h'⟩|⟨c1,c2,e,h',_⟩|⟨n,hn,c1,c2,e,h',_⟩
  ·refine ke r hu hk0 p av e h' rfl (Nat.le_refl _) (by omega) (by omega) ?_
   intro s;rw[<-r.al,<-sD];refine .inr (.inr (.inl ⟨hk,rfl,rfl,rfl,hL' s,λW hW=>?_⟩));have:=YD W hW ⟨k.kind,k.events,k.at_⟩ (u:Int) (by show(L.all.length:Int)-1<k.at_;rw[hal];exact c) (by show L.all.length<=_;omega);rw[<-hal];exact hid this
  ·refine ke r hu hk0 p av e h' rfl (Nat.le_refl _) (by omega) (by omega) ?_
   intro s;rw[<-r.al,<-sD];refine .inr (.inr (.inl ⟨hk,rfl,rfl,rfl,hL' s,λW hW=>?_⟩));have:=YE W hW ⟨k.kind,k.events,k.at_⟩ (u:Int) c1 (by show k.at_<=(L.all.length:Int)-5;rw[hal];exact c2) (by show L.all.length<=_;omega);rw[<-hal];exact hid this
  refine nZ r hu hk0 p av (k':={k with steps:=1,pinned:=(n:Int)}) e h' rfl ⟨rfl,rfl,rfl⟩ (λ_=>⟨by show 1=k.steps+1;omega,λl _ f3 _ c=>?_⟩);show l<=(n:Int);rw[c2 c];exact f3
 ·obtain⟨e,h'⟩:=h.ab8 hu hk hs
  exact nZ r hu hk0 p av (k':={k with steps:=2}) e h' rfl ⟨rfl,rfl,rfl⟩ (λ_=>⟨by show 2=k.steps+1;omega,λl _ _ g c=>g (by omega) c⟩)
 obtain⟨n,hn,hnl,e,h'⟩:=h.ab9 hu hk hs;obtain⟨l,s0,h1,h2,h3,h4,h5⟩:=r.tk u k hu;obtain⟨f1,f2,f3,f4⟩:=h5 hk0;refine ke r hu hk0 p av e h' rfl (Nat.le_refl _) (by omega) (by omega) ?_;intro s;rw[<-r.al,<-sD];refine .inr (.inr (.inl ⟨hk,rfl,rfl,rfl,hL' s,λW hW=>?_⟩))
 have hv:L.all[n]? =some (aH ol.ag (all.getD n vJ)):=by
  rw[r.al,List.getElem?_map,List.getD_eq_getElem?_getD,List.getElem?_eq_getElem hnl];rfl
 have:=YF W hW ⟨k.kind,k.events,k.at_⟩ (u:=u) (v:=n) (l:=l) hv h2 (λc=>by rw[<-hn];exact(hI.pin hk (by omega)).2.2 c) (λc=>by rw[<-hn];exact(f4 hk).2 (by omega) c) (by show L.all.length<=_;omega);exact hid this
end
section
variable {t:ByteArray} {ol:Ol} {x:Sv} {all:List Sd} {log:ByteArray} {L:Ln} {u:Nat} {k:Tk}
theorem U0(hR:qw t ol){s:Sd}(g:Ch.Good ol s)(W:World):Hid (Calls prog 48 #[.string t,.agg (aN (aH ol.ag s))] W λx w'=>x= .returned (.tuple #[.agg (aN (aH ol.ag (vX ol s).1)),.string (vX ol s).2,.int .i64 0])/\Kp (λ_=>False) W w'):=by
 have:=uA W 17 (by omega) t (aH ol.ag s) g.sm (λe=>yv e);rw[PM hR g]at this;exact hid this
theorem FW(hR:qw t ol){s:Sd}(g:Ch.Good ol s){ev:ByteArray}{i:Nat}(hi:i<ev.size)(he:bR (af ev i)=true)(h0:(aQ ol s (af ev i)).2.2=0)(W:World):Hid (Calls prog 31 #[.string t,.agg (aN (aH ol.ag s)),.string (ev.extract i (i+1))] W λx w'=>x= .returned (.tuple #[.agg (aN (aH ol.ag (aQ ol s (af ev i)).1)),.string (aQ ol s (af ev i)).2.1,.int .i64 0])/\Kp (λ_=>False) W w'):=by
 have:=mV W t (aH ol.ag s) (ev.extract i (i+1)) g.sm;rw[C2 hR g hi he,if_neg (by simp[h0])]at this;exact hid this
theorem U1(hR:qw t ol){s:Sd}(g:Ch.Good ol s){ev:ByteArray}{i:Nat}(hi:i<ev.size)(he:bR (af ev i)=true)(h0:(aQ ol s (af ev i)).2.2≠0)(W:World):Hid (Calls prog 31 #[.string t,.agg (aN (aH ol.ag s)),.string (ev.extract i (i+1))] W λx w'=>x= .returned (.tuple #[.agg (aN dX),.string ⟨#[]⟩,.int .i64 9])/\Kp (λ_=>False) W w'):=by
 have:=mV W t (aH ol.ag s) (ev.extract i (i+1)) g.sm
 have h9:(aQ ol s (af ev i)).2.2=9:=by
  rcases qA ol s (af ev i)with e|e
  ·exact absurd e h0
  exact e
 rw[C2 hR g hi he,if_pos (by simp[h9]),h9]at this;exact hid this
theorem PT(hR:qw t ol)(hol:ol.Ok)(h:SI ol x all log)(r:LR ol x all log L)(hu:x.tasks[u]? =some k)(hk:k.kind=2)(hm:all.length<=1900000000000)(hl:log.size<=7600000000000000000)(p:Lp)(av:Value):Me p t ol x all log L av u:=by
 have hal:L.all.length=all.length:=by rw[r.al,List.length_map]
 have sD:=r.lg
 have hk0:k.kind≠0:=by rw[hk];decide
 cases hd:k.drawn with
 |false=>
  obtain⟨e,h'⟩:=h.draws hu (.inr hk) hd;exact nZ r hu hk0 p av (k':={k with drawn:=true,ticket:=x.bA}) e h' rfl ⟨rfl,rfl,rfl⟩ (λq=>by rw[hk]at q;simp at q)
 |true=>?_
 by_cases ht:k.ticket=x.turn
 ·obtain⟨e,h'⟩:=h.ab5 hR hu hk hd ht
  have hg:=h.LY;have hsz:=CN hol 17 (xB (hg.wait hR));simp only[List.length_nil]at hsz;refine ke r hu hk0 p av e h' rfl (by simp) (by simp) (by rw[ByteArray.size_append,List.length_append];simp only[List.length_cons,List.length_nil];omega) ?_;intro s;refine .inr (.inl ⟨hk,rfl,rfl,λW hW=>?_⟩);have:=UU W hW (a:=aH ol.ag (lastOf all)) (b:=aH ol.ag (vX ol (lastOf all)).1) (o:=(vX ol (lastOf all)).2) (by show L.all[L.all.length-1]? =_;rw[r.al];exact PO h.pos) (by show L.all.length<=_;omega) (by show L.log.size+_<=_;rw[sD];omega) (U0 hR hg)
  have e1:(L.all++[aH ol.ag (vX ol (lastOf all)).1])=(all++[(vX ol (lastOf all)).1]).map (aH ol.ag):=by rw[r.al,List.map_append];rfl
  simp only at this;rw[e1,sD,hal]at this;exact hid this
 have e:=SI.waits (ol:=ol) hu (.inr hk) hd ht;exact nZ r hu hk0 p av (k':=k) e h (C3 hu).symm ⟨rfl,rfl,rfl⟩ (λq=>by rw[hk]at q;simp at q)
theorem PU(hR:qw t ol)(hol:ol.Ok)(h:SI ol x all log)(r:LR ol x all log L)(hu:x.tasks[u]? =some k)(hk:k.kind=1)(hm:all.length<=1900000000000)(hl:log.size<=7600000000000000000)(p:Lp)(av:Value):Me p t ol x all log L av u:=by
 have hI:=h.tk u k hu
 have hal:L.all.length=all.length:=by rw[r.al,List.length_map]
 have sD:=r.lg
 have hk0:k.kind≠0:=by rw[hk];decide
 have n3:k.kind=3->False:=λq=>by rw[hk]at q;simp at q
 cases hd:k.drawn with
 |false=>
  obtain⟨e,h'⟩:=h.draws hu (.inl hk) hd;exact nZ r hu hk0 p av (k':={k with drawn:=true,ticket:=x.bA}) e h' rfl ⟨rfl,rfl,rfl⟩ (λq=>(n3 q).elim)
 |true=>?_
 by_cases ht:k.ticket=x.turn
 ·have hq:=lF (hI.rq hk0) hk
  have hq4:k.events.size<=4:=hq.2.1;have hev:∀j,j<k.events.size->bR (af k.events j)=true:=hq.2.2.1;have hg:=h.LY
  by_cases hv:0<k.fired\/k.at_<0\/k.at_=(all.length:Int)-1
  ·have hat:k.at_<0\/k.at_=(all.length:Int)-1:=by
    rcases hv with c|c
    ·exact(hI.wk c).2.2.2.2.1
    exact c
   obtain⟨s,o,hfi,hlt,hc⟩:=h.ab6 hR hu hk hd ht hv;obtain⟨e0,hz⟩:=FV hfi;have es:s=Re ol (lastOf all) k.events k.fired:=congrArg Prod.fst e0
   rcases hc with⟨_,hne,e,h'⟩|⟨s',o',hN,c,e,h'⟩|⟨s',o',hN,c,e,h'⟩
   ·refine ke r hu hk0 p av e h' rfl (Nat.le_refl _) (by omega) (by omega) ?_
    intro s1;rw[<-r.al,<-sD];refine .inl ⟨hk,rfl,rfl,λW hW=>?_⟩
    have hgd:=λi (hi:i<=k.fired)=>Md hR hg (ev:=k.events) i (λj hj=>hz j (by omega))
    have:=FR W hW ⟨k.kind,k.events,k.at_⟩ (by show k.at_<0\/k.at_=(L.all.length:Int)-1;rw[hal];exact hat) (a:=aH ol.ag (lastOf all)) (by show L.all[L.all.length-1]? =_;rw[r.al];exact PO h.pos) (by show L.all.length<=_;omega)
     (m:=k.fired) (S:=λi=>aH ol.ag (Re ol (lastOf all) k.events i)) (D:=λi=>(aQ ol (Re ol (lastOf all) k.events i) (af k.events i)).2.1) (O:=PN ol (lastOf all) k.events)
     (by show k.events.size<=_;omega) (by show k.fired<=k.events.size;omega) rfl rfl (λ_=>rfl) (λi hi=>by have:=yQ hol (lastOf all) k.events i;omega) (by show L.log.size<=_;rw[sD];omega)
     (λi hi=>FW hR (hgd i (by omega)) (by show i<k.events.size;omega) (hev i (by omega)) (hz i hi))
     (λ_=>U1 hR (hgd k.fired (Nat.le_refl _)) hlt (hev _ hlt) (by rw[<-es];exact hne))
    rw[if_neg (by show¬k.fired=k.events.size;omega)]at this;unfold r_ at this;rw[if_neg (by show¬k.fired=k.events.size;omega)]at this;rw[<-hal];exact hid this
   ·exact nZ r hu hk0 p av (k':={k with fired:=k.fired+1,now:=s',out:=o'}) e h' rfl ⟨rfl,rfl,rfl⟩ (λq=>(n3 q).elim)
   obtain⟨e1,hz1⟩:=FV hN;have hsz:=yQ hol (lastOf all) k.events (k.fired+1);have eo:o'=PN ol (lastOf all) k.events (k.fired+1):=congrArg Prod.snd e1;have es':s'=Re ol (lastOf all) k.events (k.fired+1):=congrArg Prod.fst e1;refine ke r hu hk0 p av e h' rfl (by simp) (by simp) (by rw[ByteArray.size_append,eo,List.length_append];simp only[List.length_cons,List.length_nil];omega) ?_;intro s1;refine .inl ⟨hk,rfl,rfl,λW hW=>?_⟩
   have hgd:=λi (hi:i<=k.events.size)=>Md hR hg (ev:=k.events) i (λj hj=>hz1 j (by omega))
   have:=FR W hW ⟨k.kind,k.events,k.at_⟩ (by show k.at_<0\/k.at_=(L.all.length:Int)-1;rw[hal];exact hat) (a:=aH ol.ag (lastOf all)) (by show L.all[L.all.length-1]? =_;rw[r.al];exact PO h.pos) (by show L.all.length<=_;omega)
    (m:=k.events.size) (S:=λi=>aH ol.ag (Re ol (lastOf all) k.events i)) (D:=λi=>(aQ ol (Re ol (lastOf all) k.events i) (af k.events i)).2.1) (O:=PN ol (lastOf all) k.events)
    (by show k.events.size<=_;omega) (Nat.le_refl _) rfl rfl (λ_=>rfl) (λi hi=>by have:=yQ hol (lastOf all) k.events i;omega) (by show L.log.size<=_;rw[sD];omega)
    (λi hi=>FW hR (hgd i (by omega)) hi (hev i hi) (hz1 i (by omega)))
    (λc=>absurd c (Nat.lt_irrefl _))
   rw[if_pos rfl]at this;unfold r_ at this;rw[if_pos rfl]at this
   have e3:(L.all++[aH ol.ag (Re ol (lastOf all) k.events k.events.size)])=(all++[s']).map (aH ol.ag):=by rw[r.al,List.map_append,es',c];rfl
   simp only at this;rw[e3,sD,hal,<-c,<-eo,c]at this;exact hid this
  have hf:k.fired=0:=by omega
  obtain⟨e,h'⟩:=h.t_ hu hk hd ht hf (by omega) (by omega);refine ke r hu hk0 p av e h' rfl (Nat.le_refl _) (by omega) (by omega) ?_;intro s;rw[<-r.al,<-sD];refine .inl ⟨hk,rfl,rfl,λW hW=>?_⟩;have:=UW W hW ⟨k.kind,k.events,k.at_⟩ (by show 0<=k.at_;omega) (by show k.at_≠(L.all.length:Int)-1;rw[hal];omega) (by show L.all.length<=_;omega);rw[<-hal];exact hid (this.mono (λy w' g=>⟨g.1,xM.of (hW.ai g.2) (g.2.mono (λ_ _ x=>x.elim))⟩))
 have e:=SI.waits (ol:=ol) hu (.inl hk) hd ht;exact nZ r hu hk0 p av (k':=k) e h (C3 hu).symm ⟨rfl,rfl,rfl⟩ (λq=>(n3 q).elim)
theorem YO(hR:qw t ol)(hol:ol.Ok)(h:SI ol x all log)(r:LR ol x all log L)(hu:x.tasks[u]? =some k)(hm:all.length<=1900000000000)(hl:log.size<=7600000000000000000)(p:Lp)(av:Value):Me p t ol x all log L av u:=by
 by_cases q:k.kind=0
 ·exact PQ h r hu q p av
 rcases uQ ((h.tk u k hu).rq q)with c|c|c|c
 ·exact PU hR hol h r hu c hm hl p av
 ·exact PT hR hol h r hu c hm hl p av
 ·exact PS h r hu c hm p av
 exact PR h r hu c hm hl p av
end
def stL(k u n:Int)(s:ByteArray):List Value:=[.int .i64 k,.int .i64 u,.int .i64 n,.string s]
def In64(x:Int):Prop:=-9223372036854775808<=x/\x<=9223372036854775807
def Rg(w:World)(B:Nat)(v:Value)(n:Nat):Prop:=((∃ao cap,v= .slice ao 0 cap)/\n=0)\/
 ∃g off cap,v= .slice (some ⟨g,off,none⟩) n cap/\g<B/\∀j,j<n->∃k u m s,(∀i y,(stL k u m s)[i]? =some y->w.cell? ⟨g,off+j*4+i,none⟩=some y)/\In64 u/\In64 m/\s.size<=maxLen
theorem Rg.keep{w w':World}{B B':Nat}{v:Value}{n:Nat}(h:Rg w B v n)(hB:B<=B')(hw:B<=w.heap.size)(K:Kp (λk=>B<=k) w w'):Rg w' B' v n:=by
 rcases h with h|⟨g,off,cap,e,hg,hc⟩
 ·exact .inl h
 refine .inr ⟨g,off,cap,e,by omega,λj hj=>?_⟩;obtain⟨k,u,m,s,h1,h2,h3,h4⟩:=hc j hj;refine⟨k,u,m,s,λi y hi=>?_,h2,h3,h4⟩;have:=h1 i y hi;unfold World.cell? at*;simp only at*;rw[K.block g (by omega) (by omega)];exact this
structure jK(w0 w:World)(B c:Nat)(p:Lp)(t:ByteArray)(xb tb:Nat)(pc:Pc)(ol:Ol)(n i:Nat)(L:Ln)(x:Sv)(all:List Sd)(log:ByteArray)(av kv:Value):Prop where
 ln:h_ w p t L av
 sv:dT w xb tb 138 pc ol x kv
 fl:∀k,oe p av k->B<=k
 fs:∀k,oN xb tb kv k->B<=k
 si:SI ol x all log
 lr:LR ol x all log L
 md:all.length+x.bA<=1+i
 lg:log.size<=c+4000000*all.length
 tk:all.length<=x.turn+1
 st:∀(u:Nat) (s:Int),L.steps[u]? =some s->s<=(i:Int)
 tn:x.tasks.length=n
 kp:Kp (λk=>B<=k) w0 w
section
variable {w0 w w':World} {B c:Nat} {p:Lp} {t:ByteArray} {xb tb:Nat} {pc:Pc} {ol:Ol} {n i:Nat} {L:Ln} {x:Sv} {all:List Sd} {log:ByteArray} {av kv:Value}
theorem jK.ai(T:jK w0 w B c p t xb tb pc ol n i L x all log av kv)(K:Kp (λ_=>False) w w'):jK w0 w' B c p t xb tb pc ol n i L x all log av kv:=
 ⟨T.ln.ai K,T.sv.ai K,T.fl,T.fs,T.si,T.lr,T.md,T.lg,T.tk,T.st,T.tn,T.kp.trans' K (λ_ _ x=>x.elim)⟩
theorem jK.next(T:jK w0 w B c p t xb tb pc ol n i L x all log av kv):jK w0 w B c p t xb tb pc ol n (i+1) L x all log av kv:=
 ⟨T.ln,T.sv,T.fl,T.fs,T.si,T.lr,by have:=T.md;omega,T.lg,T.tk,λu s h=>by have:=T.st u s h;omega,T.tn,T.kp⟩
theorem jK.small(T:jK w0 w B c p t xb tb pc ol n i L x all log av kv)(hR:qw t ol)(hol:ol.Ok)(hi:i<=3600000000000)(hc:c<=10000000000){u:Nat}(hu:u<n):
 ∃L' all' uk,Calls prog 37 #[.pointer (some ⟨p.wb,0,none⟩),.pointer (some ⟨xb,0,none⟩),.int .i64 (u:Int)] w λy w'=>y= .returned (.bool true)/\∃Aq kq,jK w0 w' B c p t xb tb pc ol n (i+1) L' (cZ ol x (u:Int)).1 all' uk Aq kq:=by
 obtain⟨k,hk⟩:∃k,x.tasks[u]? =some k:=⟨_,List.getElem?_eq_getElem (by rw[T.tn];exact hu)⟩
 have hmk:=T.md;have sD:=T.lg;have htk:=T.tk;have hle:=T.si.le;obtain⟨L',all',uk,b,s,h1,h2,h3,h4,h5,h6,h7,h8,h9,h10,h11⟩:=YO hR hol T.si T.lr hk (by omega) (by omega) p av;have hs:=T.st u s h2;have hbd:=T.si.bd (by omega) (by omega) (by omega);generalize hSS:cZ ol x (u:Int)=SS at*
 have m1:all'.length+SS.1.bA<=1+(i+1):=by omega
 have m2:uk.size<=c+4000000*all'.length:=by omega
 have m3:all'.length<=SS.1.turn+1:=by have:=h7.2;omega
 have hsm:=UY (L':=L') w T.ln T.sv T.fl T.fs hbd hol (u:=u) (λk' hk'=>by
  rw[xC hk]at hk';simp at hk';subst hk'
  exact T.si.FO hR hol hk) h1 h2 h3 (by omega) (by rw[hSS];exact h4)
 rw[hSS]at hsm;refine⟨L',all',uk,hsm.mono ?_⟩;rintro y w' ⟨rfl,Aq,kq,g1,g2,g3,g4,g5⟩;refine⟨rfl,Aq,kq,g1,g2,g3,g4,h5,h6,m1,m2,m3,?_,by rw[h10];exact T.tn,T.kp.trans' g5 (λk _ hk=>hk)⟩;intro v s' hv
 rcases h11 with e|e
 ·rw[e]at hv;have:=T.st v s' hv;omega
 rw[e]at hv;rw[List.getElem?_set]at hv
 split at hv
 ·split at hv
  ·simp at hv;omega
  simp at hv
 have:=T.st v s' hv;omega
theorem jK.held(T:jK w0 w B c p t xb tb pc ol n i L x all log av kv)(hi:i<=3600000000000):Calls prog 36 #[.pointer (some ⟨p.wb,0,none⟩),.pointer (some ⟨xb,0,none⟩)] w λy w'=>y= .returned (.bool true)/\jK w0 w' B c p t xb tb pc ol n i L x all log av kv:=by
 have hmk:=T.md;have htk:=T.tk;have hle:=T.si.le
 have hal:L.all.length=all.length:=by rw[T.lr.al,List.length_map]
 have hk:x.kept.length<=1000:=by
  rw[T.si.kept];have:=CR all x.tasks;have:=T.si.len;omega
 exact(YK w T.ln T.sv hk (T.lr.held T.si) (by omega)).mono (λy w' g=>⟨g.1,T.ai g.2⟩)
theorem jK.asks(T:jK w0 w B c p t xb tb pc ol n i L x all log av kv)(hi:i<=3600000000000)(hc:c<=10000000000){u:Nat}(hu:u<n)(k us m:Int)(s:ByteArray)(hk1:1<=k)(hk4:k<=4)(hm:In64 m)(hs:s.size<=maxLen):
 Calls prog 35 #[.pointer (some ⟨p.wb,0,none⟩),.pointer (some ⟨xb,0,none⟩),.int .i64 (u:Int),.agg (stA k us m s)] w λy w'=>y= .returned (.bool true)/\∃L' x' Aq kq,jK w0 w' B c p t xb tb pc ol n i L' x' all log Aq kq:=by
 obtain⟨tk,htk⟩:∃k,x.tasks[u]? =some k:=⟨_,List.getElem?_eq_getElem (by rw[T.tn];exact hu)⟩
 have hmk:=T.md;have sD:=T.lg;have htk':=T.tk;have hle:=T.si.le
 have hal:L.all.length=all.length:=by rw[T.lr.al,List.length_map]
 have hll:L.log.size=log.size:=by rw[T.lr.lg]
 obtain⟨l,s0,h1,h2,h3,h4,h5⟩:=T.lr.tk u tk htk
 obtain⟨r0,hr0⟩:∃r0,L.asked[u]? =some r0:=⟨_,List.getElem?_eq_getElem (by rw[T.lr.la,T.tn];exact hu)⟩
 refine(YN w T.ln T.sv T.fl T.fs k us m s hk1 hk4 hm.1 hm.2 hs (by omega) (by omega) h1 hr0 h2 h3 htk rfl).mono ?_;rintro y w' ⟨rfl,r,hr,hrk,Aq,kq,g1,g2,g3,g4,g5⟩
 have hrn:r.kind≠0:=by omega
 by_cases q:tk.kind=0
 ·have e:decide (tk.kind≠0)=false:=by simp[q]
  rw[e]at g1 g2;simp only[Bool.false_eq_true,if_false]at g1 g2;refine⟨rfl,_,_,Aq,kq,g1,g2,g3,g4,T.si.ask htk q hr,T.lr.ask htk T.si.pos hrn,T.md,T.lg,T.tk,?_,by simp[ay];exact T.tn,T.kp.trans' g5 (λk _ hk=>hk)⟩;intro v s' hv;have hv':(L.steps.set u 0)[v]? =some s':=hv;rw[List.getElem?_set]at hv'
  split at hv'
  ·split at hv'
   ·simp at hv';omega
   simp at hv'
  have:=T.st v s' hv';omega
 have e:decide (tk.kind≠0)=true:=by simp[q]
 rw[e]at g1 g2;simp only[if_true]at g1 g2
 have T':jK w0 w' B c p t xb tb pc ol n i L x all log Aq kq:=⟨g1,g2,g3,g4,T.si,T.lr,T.md,T.lg,T.tk,T.st,T.tn,T.kp.trans' g5 (λk _ hk=>hk)⟩
 exact⟨rfl,_,_,Aq,kq,T'⟩
end
open Go.ChangeShapes Go.WideShapes Go.ChangeAt Go.RowKit Go.Deep
theorem FX:prog.cellsOf 58=4:=by kernel_rfl
theorem PV:prog.cellsOf 9=1:=by kernel_rfl
section
variable {H:Type} {enc:TypeId×Value->H} {w:World} {base:Nat} {spare:Nat->Bool} {held:Bool}
theorem U2{n:Nat}{cs:List Value}{x:DataW H×List MemPlace}(h:DataW.trod enc prog w base spare held n 58 cs=some x):
 ∃(k u m:Int) (s:ByteArray),cs=stL k u m s/\In64 u/\In64 m/\s.size<=maxLen:=by
 obtain⟨xs,m,_,_,hl,hlen,hf⟩:=DataW.trod_struct underlying58 h;rw[FX]at hl
 match cs,hl,hf with
 | [c0,c1,c2,c3],_,hf=>
   match xs,hlen,hf with
   | [x0,x1,x2,x3],_,hf=>
     have g0:=hf 0 _ rfl;have g1:=hf 1 _ rfl;have g2:=hf 2 _ rfl;have g3:=hf 3 _ rfl;simp[Bx,PV]at g0 g1 g2 g3;obtain⟨s0,e0,_⟩:=DataW.trod_int underlying3 g0;obtain⟨s1,e1,_,w1⟩:=DataW.trod_int underlying3 g1;obtain⟨s2,e2,_,w2⟩:=DataW.trod_int underlying3 g2;obtain⟨s3,e3,_,b3⟩:=DataW.trod_string underlying9 g3;simp only[List.cons.injEq,and_true]at e0 e1 e2 e3;exact⟨s0,s1,s2,s3,by rw[e0,e1,e2,e3];rfl,bounds_i64 w1,bounds_i64 w2,b3⟩
end
theorem C4{H:Type}{enc:TypeId×Value->H}{W:World}{base:Nat}{v:Value}{d:DataW H}{p:List MemPlace}(hv:Value.okWide prog W .any base 52 v)
 (h:DataW.Trod enc prog W 0 (λ_=>true) true 52 v d p):∃n,Rg W W.heap.size v n/\n<=maxLen:=by
 obtain⟨fuel,hf⟩:=h;obtain⟨a0,len,cap,rfl⟩:=okWide_slice underlying52 hv
 rcases open_slice underlying52 hf with⟨hcs,_⟩|⟨a,len',cap',m,n,D,Pl,hcs,hb,hl,hm,hmm,_,hel⟩
 ·simp[Value.cells]at hcs
  obtain⟨rfl,rfl,rfl⟩:=hcs;exact⟨0,.inl ⟨⟨_,_,rfl⟩,rfl⟩,Nat.zero_le _⟩
 simp[Value.cells]at hcs;obtain⟨rfl,rfl,rfl⟩:=hcs;simp only[if_true]at hmm;subst hmm;rw[FX]at hel
 by_cases hz:len=0
 ·subst hz
  exact⟨0,.inl ⟨⟨_,_,rfl⟩,rfl⟩,Nat.zero_le _⟩
 have hex:∀i,i<len->∃k u m s,(∀j y,(stL k u m s)[j]? =some y->W.cell? (a.add (i*4+j))=some y)/\In64 u/\In64 m/\s.size<=maxLen:=by
  intro i hi;obtain⟨cs',hc,ht⟩:=hel i (by omega);obtain⟨k,u,m',s,rfl,h1,h2,h3⟩:=U2 ht;obtain⟨_,_,hcell⟩:=World.cells?_some hc;refine⟨k,u,m',s,λj y hy=>?_,h1,h2,h3⟩
  have hj:j<4:=by have:=(List.getElem?_eq_some_iff.1 hy).1;simpa[stL]using this
  rw[<-Go.Deep.add_add,hcell j hj];exact hy
 obtain⟨b,off,spot⟩:=a
 have hspot:spot=none:=by
  obtain⟨k,u,m',s,hx,_⟩:=hex 0 (by omega);have:=hx 0 _ rfl;simpa[Addr.add]using World.cell?_spot this
 subst hspot
 have hlt:b<W.heap.size:=by
  obtain⟨k,u,m',s,hx,_⟩:=hex 0 (by omega);have hx:=hx 0 _ rfl
  by_cases q:b<W.heap.size
  ·exact q
  rw[World.cell?]at hx;simp[Addr.add,Array.getElem?_eq_none (Nat.le_of_not_lt q)]at hx
 refine⟨len,.inr ⟨b,off,m,rfl,hlt,λj hj=>?_⟩,by omega⟩;obtain⟨k,u,m',s,hx,h1,h2,h3⟩:=hex j hj;refine⟨k,u,m',s,λi y hy=>?_,h1,h2,h3⟩;have:=hx i y hy;rw[show off+j*4+i=off+(j*4+i)by omega];unfold Addr.add at this
 split at this<;>simp_all
theorem jK.start{w:World}{B:Nat}{p:Lp}{t:ByteArray}{xb tb:Nat}{pc:Pc}{ol:Ol}{n:Nat}{av kv:Value}(hR:qw t ol)(he:(Ch.mstart ol).2.2=0)(hn:n<=6)(hL:h_ w p t (DY (aH ol.ag (Ch.mstart ol).1) (Ch.mstart ol).2.1 n) av)(hS:dT w xb tb 138 pc ol (lE ol n) kv)(hfl:∀k,oe p av k->B<=k)(hfs:∀k,oN xb tb kv k->B<=k):
 jK w w B (Ch.mstart ol).2.1.size p t xb tb pc ol n 0 (DY (aH ol.ag (Ch.mstart ol).1) (Ch.mstart ol).2.1 n) (lE ol n) [(Ch.mstart ol).1] (Ch.mstart ol).2.1 av kv:=by
 refine⟨hL,hS,hfl,hfs,abg hR he hn,LR.new ol n,Nat.le_refl _,Nat.le_add_right _ _,Nat.le_refl _,?_,by simp[lE,j1],Kp.refl _ _⟩;intro u s hs;have hs':(List.replicate n (0:Int))[u]? =some s:=hs;rw[List.eq_of_mem_replicate (List.mem_of_getElem? hs')];exact Int.le_refl _
theorem Rg.len{w:World}{B:Nat}{v:Value}{n:Nat}(h:Rg w B v n):∃ao cap,v= .slice ao n cap:=by
 rcases h with⟨⟨ao,cap,e⟩,rfl⟩|⟨g,off,cap,e,_⟩
 ·exact⟨ao,cap,e⟩
 exact⟨_,cap,e⟩
theorem Rg.at_{w:World}{B:Nat}{v:Value}{n j:Nat}(h:Rg w B v n)(hj:j<n):∃g off cap,v= .slice (some ⟨g,off,none⟩) n cap/\∃k u m s,(∀i y,(stL k u m s)[i]? =some y->w.cell? ⟨g,off+j*4+i,none⟩=some y)/\In64 u/\In64 m/\s.size<=maxLen:=by
 rcases h with⟨_,rfl⟩|⟨g,off,cap,e,_,hc⟩
 ·omega
 exact⟨g,off,cap,e,hc j hj⟩
theorem aci(k u m:Int)(s:ByteArray):(stA k u m s).all (λx=>x.oneCell')=true:=by simp[stA,Value.oneCell']
section
variable (w:World)
theorem U3{lv:Value}{n:Nat}(hI:qs w w.heap.size lv n)(hn:n<=maxLen)(cl:Int)(hcl:In64 cl){sv:Value}{sn:Nat}(hS:Rg w w.heap.size sv sn)(hsn:sn<=3600000000000):
 Calls prog 16 #[lv,.int .i64 cl,sv] w λx w'=>x= .returned (.bool true)/\Below w.heap.size w w':=by
 have E0:=hid (nO w hI hn);have HS:=hid hS;clear hI hn hS
 go_enter func16,ntmps16
 go_wp2_with fail
 refine hm E0 ?_;rintro y w1 ⟨LL,P,pv,rfl,_,B1,hP,hW,hL⟩;obtain⟨ol,hR,Z1⟩:=qB hP hW hL;have HR:=hid hR;generalize strOfNums LL=T at HR;clear E0 hP hW hL hR Z1;have EP:Hid (Calls prog 24 #[.int .i64 cl,.int .i64 6] w1 λx w'=>∃r:Nat,x= .returned (.int .i64 r)/\r<6/\w'=w1):=hid (ui w1 cl hcl.1 hcl.2 6 (by omega) (by omega))
 go_wp2_with fail
 refine hm EP ?_;rintro y w2 ⟨r,rfl,hr,rfl⟩;clear EP;have E1:=hid (tE w2)
 go_wp2_with fail
 refine hm E1 ?_;rintro y w3 ⟨rfl,K3⟩;have B3:=B1.trans (aG K3 B1.size);clear E1 K3 B1;have EB:=FU w3 T (r+1) (by omega) (by omega) (by rw[HR.out.rd]) (by rw[HR.out.rd];exact ly ol);rw[show((r+1:Nat):Int)=1+(r:Int)by omega]at EB;replace EB:=hid EB
 go_wp2_with fail
 refine hm EB ?_;rintro y w4 ⟨xv,wv,rfl,hq,K4⟩;have B4:=B3.trans (aG K4 B3.size);unfold YL at hq;rw[HR.out.rd]at hq;simp only at hq
 rcases ly ol with e|e
 ·obtain⟨xb,tb,pc,kv,p,av,rfl,rfl,hSv,hLn,hfs,hfl⟩:=hq.2 e
  have hol:ol.Ok:=by have:=mK T;rw[HR.out.rd]at this;exact this
  have hcz:=uf hol;have T0:=jK.start HR.out e (by omega) hLn hSv hfl hfs;obtain⟨ao,cap,rfl⟩:=HS.out.len;have alk:w.heap.size<=w3.heap.size:=B3.size;have pM:Rg w4 w.heap.size (.slice ao sn cap) sn:=HS.out.keep (Nat.le_refl _) (Nat.le_refl _) ((kZ B4).mono (λ_ _ x=>x.elim));have hs4:w3.heap.size<=w4.heap.size:=K4.size;generalize hBe:w3.heap.size=B at*;generalize (Ch.mstart ol).2.1.size=c at*;have Va:=hid pM;have HB:=hid B4;have HOL:=hid (ae hol hcz);obtain⟨dS,hdS,Is⟩:=YM;generalize hL0:DY (aH ol.ag (Ch.mstart ol).1) (Ch.mstart ol).2.1 (r+1)=L0 at T0;generalize hx0:lE ol (r+1)=x0 at T0;have HT0:=hid T0;clear T0 hfl hfs hLn hSv hq EB K4 HS pM B3 B4 hL0 hx0 hol hcz hBe
  have aln:(sn:Int)<=3600000000000:=by omega
  go_upto_region 8 with(fail)
  go_loopw [13,14] (λok iv wr=>∃i:Nat,ok= .bool true/\iv= .int .i64 i/\i<=sn/\Hid (∃L x all log av kv,jK w4 wr B c p T xb tb pc ol (r+1) i L x all log av kv)) (λ_ iv _=>sn-(intOf iv).toNat)
  case atStart=>exact⟨0,rfl,rfl,Nat.zero_le _,hid ⟨_,_,_,_,_,_,HT0.out⟩⟩
  case round=>
   obtain⟨i,rfl,rfl,hi,HT⟩:=hrel;clear HT0
   by_cases hlt:i<sn
   ·have hlt':(i:Int)<(sn:Int):=by omega
    obtain⟨L,x,all,log,av1,kv1,TT⟩:=HT.out;have hSr:Rg wr w.heap.size (.slice ao sn cap) sn:=Va.out.keep (Nat.le_refl _) (by omega) (TT.kp.mono (λk _ hk=>by show w.heap.size<=k;have:B<=k:=hk;omega));obtain⟨g,off,cap',hv,k,us,m,s,hc,hu64,aej,aek⟩:=hSr.at_ hlt;simp only[Value.slice.injEq,true_and]at hv;obtain⟨rfl,rfl⟩:=hv;have hnew:=heap_alloc_new wr (.cells #[.int .i64 0,.int .i64 0,.int .i64 0,.string ⟨#[]⟩] 58);have h5:=setRow_heap (wr.alloc (.cells #[.int .i64 0,.int .i64 0,.int .i64 0,.string ⟨#[]⟩] 58)) wr.heap.size #[.int .i64 0,.int .i64 0,.int .i64 0,.string ⟨#[]⟩] (stA k us m s) 58 (0,0) hnew;have K5:Kp (λ_=>False) wr ((wr.alloc (.cells #[.int .i64 0,.int .i64 0,.int .i64 0,.string ⟨#[]⟩] 58)).setRow wr.heap.size (stA k us m s)):=((Kp.refl _ _).alloc _).setRow (λx=>by omega) _;have T5:=hid (TT.ai K5);have sI:(prog.info? 58).map (·.size)=some (stA k us m s).size:=CZ;have sO:=aci k us m s;clear HT TT K5 hSr
    go_upto_region 11 with(first|refine aY rfl 58 (.tmp 55) rfl g (off+i*4) rfl (stL k us m s) dS hc hdS Is CZ ?_|refine wpList_store_row rfl 58 (.tmp 15) (.tmp 56) rfl wr.heap.size (stA k us m s) rfl rfl 58 #[.int .i64 0,.int .i64 0,.int .i64 0,.string ⟨#[]⟩] hnew sI rfl sO ?_)
    generalize (wr.alloc (.cells #[.int .i64 0,.int .i64 0,.int .i64 0,.string ⟨#[]⟩] 58)).setRow wr.heap.size (stA k us m s)=w5 at*;generalize wr.heap.size=b0 at*
    have z0:w5.cell? ⟨b0,0,none⟩=some (.int .i64 k):=by simp[World.cell?,h5,stA]
    have z1:w5.cell? ⟨b0,1,none⟩=some (.int .i64 us):=by simp[World.cell?,h5,stA]
    have EP:=ui w5 us hu64.1 hu64.2 (r+1) (by omega) (by omega);rw[show((r+1:Nat):Int)=1+(r:Int)by omega]at EP;replace EP:=hid EP;generalize ye:stA k us m s=SA at*;have Nf:=hid ye;clear ye hnew hc
    go_wp2_with fail
    refine hm EP ?_;rintro y w6 ⟨u,rfl,hu,rfl⟩;clear EP
    by_cases hk1:1<=k/\k<=4
    ·have hka:1<=k:=hk1.1
     have hkb:k<=4:=hk1.2;have EA:=T5.out.asks (by omega) HOL.out.2 hu k us m s hka hkb aej aek;rw[Nf.out]at EA;replace EA:=hid EA
     go_wp2_with (refine wpList_load_row rfl 58 (.tmp 15) rfl b0 rfl 58 SA (0,0) dS h5 hdS (by cases dS<;>first|rfl|exact absurd Is (by simp[ak])) sI ?_)
     refine hm EA ?_;rintro y w7 ⟨rfl,L7,x7,av7,IF,T7⟩
     have Ar:=hid T7.next
     clear EA T7;go_wp2
     go_roundw
     case rel=>exact⟨i+1,rfl,by go_num,by omega,hid ⟨_,_,_,_,_,_,Ar.out⟩⟩
     case measure=>simp[intOf];omega
    by_cases hk5:k=5
    ·subst hk5
     have EA:=hid (T5.out.held (by omega))
     go_wp2_with fail
     refine hm EA ?_;rintro y w7 ⟨rfl,T7⟩
     have Ar:=hid T7.next
     clear EA T7;go_wp2
     go_roundw
     case rel=>exact⟨i+1,rfl,by go_num,by omega,hid ⟨_,_,_,_,_,_,Ar.out⟩⟩
     case measure=>simp[intOf];omega
    obtain⟨L7,alp,alq,EA'⟩:=T5.out.small HR.out HOL.out.1 (by omega) HOL.out.2 hu;have EA:=hid EA';clear EA'
    have aqG:(k==5)=false:=by simpa using hk5
    by_cases hka:1<=k
    ·have hkb:¬k<=4:=by omega
     go_wp2_with fail
     refine hm EA ?_;rintro y w7 ⟨rfl,av7,IF,T7⟩;have Ar:=hid T7;clear EA T7;go_wp2
     go_roundw
     case rel=>exact⟨i+1,rfl,by go_num,by omega,hid ⟨_,_,_,_,_,_,Ar.out⟩⟩
     case measure=>simp[intOf];omega
    go_wp2_with fail
    refine hm EA ?_;rintro y w7 ⟨rfl,av7,IF,T7⟩;have Ar:=hid T7;clear EA T7;go_wp2
    go_roundw
    case rel=>exact⟨i+1,rfl,by go_num,by omega,hid ⟨_,_,_,_,_,_,Ar.out⟩⟩
    case measure=>simp[intOf];omega
   have hge:¬(i:Int)<(sn:Int):=by omega
   obtain⟨L,x,all,log,av1,kv1,TT⟩:=HT.out;have EH:=hid (TT.held (by omega));clear HT TT
   go_wp2_with fail
   refine hm EH ?_;rintro y w6 ⟨rfl,T6⟩;have HZ:=hid (HB.out.trans (T6.kp.below (by omega) (λk hk=>by show w.heap.size<=k;have:B<=k:=hk;omega)));clear EH T6;go_wp2;go_ret;exact⟨rfl,HZ.out⟩
 have hxv:=hq.1 (by rw[e];decide);subst hxv;have HB:=hid B4;clear B4 hq EB K4;go_wp2;go_ret;exact⟨rfl,HB.out⟩
end
end Go.Proofs.YtnlbchmfcebeeaaGreat
