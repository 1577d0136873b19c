import Derived.Test.YtnlbchmfcebeeaaGreatTZa
set_option maxHeartbeats 12800000
set_option maxRecDepth 100000
namespace Go.Proofs.YtnlbchmfcebeeaaGreat
open Go.Proofs.Tryz Ch
open Go.RowKit
section
variable (B xb cb g:Nat) (pv:Value) (m:Ma) (l:List NV) (v:Value) (ol:Ol)
theorem Mn(on:List Bool)(am:iN l.length on m.s.act)(J:Rf l ol):∀(N:Nat) (w:World) (i:Nat),l.length<=i+N->i<l.length->iA w xb cb g l.length pv m->kG w g on->jW w B cb l v->
 Calls prog 264 #[.pointer (some ⟨xb,0,none⟩),.int .i64 i] w λy w'=>y= .returned (.bool (Ch.atEnd ol.ai m.s.act i))/\Kp (λ_=>False) w w':=by
 intro N
 induction N with
 |zero=>intro w i h1 h2;omega
 |succ N ih=>
 intro w i hN hi h aj hF;have a8:=J.le;have dE:=Ht J.kg.qM m.s.act i;rw[Ep,<-pd J]at dE;have a2:=tN (Ch.mk l) (i:Int)
 have EU:=λj (h:j∈fq (Ch.mk l) (i:Int))=>(show i<j/\j<l.length from by
  rw[pd J]at h;have:=pI J.kg.qM (cf.1 h)
  rw[J.len]at this;exact this)
 rw[eI]at a2;have E0:=af (nT w B cb l v (i:Int) hF (by omega));generalize fq (Ch.mk l) (i:Int)=ks at*;obtain⟨ao,cap,rfl⟩:=hF.2.1.len
 obtain⟨y,hy⟩:∃y,l[i]? =some y:=⟨_,ar hi⟩
 rw[J.kind hy]at dE
 have a7:(i:Int)<(l.length:Int):=by omega
 have HL:=af EU;have a0:=af dE;have QE:=af ih;have Y:=af (ae h (ae hF aj));clear h hF aj EU dE ih;have a1:w.cell? _=some (.pointer (some ⟨cb,0,none⟩)):=Y.out.1.cell 0
 go_enter func264,ntmps264
 go_wp2_with fail
 refine hm E0 ?_;rintro z w2 ⟨u,rfl,hu,K2⟩;obtain⟨ua,uc,rfl⟩:=bn hu;have HU:=af (ae hu (ae K2 (ae (Y.out.1.az K2 (λx=>x):iA w2 xb cb g l.length pv m) (ae (Y.out.2.1.au K2) (K2.at_ Y.out.2.2 (λx=>x):kG w2 g on)))));clear hu K2 E0 Y a1
 go_wp2_with fail
 go_loopw [6,7,8] (λfv av kv wr=>∃k:Nat,kv= .int .i64 k/\k<=ks.length/\fv= .bool ((ks.take k).any λj=>a_ ol.ai j==4&&Ch.bit m.s.act j)/\av= .bool (if y.n.kind==3 then(ks.take k).all (λj=>Ch.atEnd ol.ai m.s.act j)else true)/\Kp (λ_=>False) w2 wr) (λ_ _ kv _=>ks.length-(intOf kv).toNat)
 case atStart=>exact⟨0,rfl,aG _,rfl,by cases y.n.kind==3<;>rfl,Kp.refl _ _⟩
 case round=>
  obtain⟨k,rfl,hk,rfl,rfl,I⟩:=hrel;have hr:=HU.out.2.2.1.az I (λx=>x);have X:=HU.out.2.2.2.1.au I;have kh:kG _ _ _:=I.at_ HU.out.2.2.2.2 (λx=>x);have G:=I.owns HU.out.1 (λ_ _ x=>x);have c0:wr.cell? _=some (.pointer (some ⟨cb,0,none⟩)):=hr.cell 0;have c1:wr.cell? _=some (.slice (some ⟨g,0,none⟩) l.length l.length):=hr.cell 1;have zc:=X.cell;obtain⟨g1,EE,hv,_,F,_⟩:=X.2.1.form hy;simp only[aK]at hv;obtain⟨rfl,-,rfl⟩:=hv;have zi:_=some _:=F 1 (by omega)
  by_cases a3:k<ks.length
  ·have a5:(k:Int)<(ks.length:Int):=by omega
   obtain⟨j,hj⟩:∃j,ks[k]? =some j:=⟨_,ar a3⟩
   have ad:=HL.out j (aM hj)
   have Sq:(j:Int)<(l.length:Int):=by omega
   obtain⟨yj,aO⟩:∃yj,l[j]? =some yj:=⟨_,ar ad.2⟩
   obtain⟨g3,yy,aI,_,pL,_⟩:=X.2.1.form aO;simp only[aK,bq,dH,bS,dx]at aI;obtain⟨rfl,rfl⟩:=aI;have zj:_=some _:=pL 1 (by omega);obtain⟨g2,a4,ap,_⟩:=cR G (by omega);simp only[aK]at ap;obtain⟨rfl,-,rfl⟩:=ap
   have zk:wr.cell? ⟨g2,k,none⟩=some (.int .i64 j):=by
    rw[bP G k (by omega)];simp[bI,jx,hj]
   have Gh:=kh.cell (k:=j) (by have:=am.1;omega);have O:=Av (p:=λj=>a_ ol.ai j==4&&Ch.bit m.s.act j) hj
   have aa:(ks.take (k+1)).all (λj=>Ch.atEnd ol.ai m.s.act j)=((ks.take k).all (λj=>Ch.atEnd ol.ai m.s.act j)&&Ch.atEnd ol.ai m.s.act j):=by
    rw[gO,hj,List.all_append];simp
   simp only[J.kind aO,<-am.2.2 j]at O;have E:=af (λnn=>QE.out (wr.drewN nn) j (by omega) ad.2 (hr.az ((Kp.refl (λ_=>False) _).drewN nn) (λx=>x)) (((Kp.refl (λ_=>False) _).drewN nn).at_ kh (λx=>x)) (X.au ((Kp.refl _ _).drewN nn)));have Zm:=af O;have aS:=af aa;have U:=af I;generalize (ks.take k).any (λj=>a_ ol.ai j==4&&Ch.bit m.s.act j)=fb at*;generalize (ks.take k).all (λj=>Ch.atEnd ol.ai m.s.act j)=ab at*;generalize Ch.atEnd ol.ai m.s.act j=ej at*;generalize qA on j=oj at*;clear hr X kh G I F pL O aa
   cases q3:y.n.kind==3 with
   |false=>
    cases q4:yj.n.kind==4<;>cases oj<;>rw[q4]at Zm<;>
    (go_upto_region 7 with(fail)
     go_quiet (fail)
     go_wp2
     go_roundw
     case rel=>exact⟨k+1,by go_num,by omega,by rw[Zm.out];cases fb<;>rfl,by rfl,U.out.drewN _⟩
     case measure=>simp[intOf];omega)
   |true=>?_
   cases q4:yj.n.kind==4<;>cases oj<;>rw[q4]at Zm<;>
   (go_upto_region 7 with(fail)
    go_quiet (fail)
    go_wp2_with fail
    refine bu (eE E _) ?_;rintro z w5 ⟨rfl,K5⟩;have Gi:=af ((U.out.drewN nq).trans K5);clear K5
    cases ab<;>cases ej<;>
    (go_wp2
     go_roundw
     case rel=>exact⟨k+1,by go_num,by omega,by rw[Zm.out];cases fb<;>rfl,by simp[aS.out],Gi.out⟩
     case measure=>simp[intOf];omega))
  have a6:¬(k:Int)<(ks.length:Int):=by omega
  obtain rfl:k=ks.length:=by omega
  rw[fD];have D:=a0.out;have U:=af (HU.out.2.1.trans I);clear hr X kh G I F
  cases q2:y.n.kind==2 with
  |true=>
   have e2:y.n.kind=2:=by simpa using q2
   rw[q2]at D;have Z:=af (D.trans (aq rfl));rw[e2]at zi;clear D;rw[e2];go_wp2;go_ret;rw[Z.out];exact⟨rfl,U.out⟩
  |false=>?_
  rw[q2]at D
  cases q3:y.n.kind==3 with
  |true=>
   have e3:y.n.kind=3:=by simpa using q3
   rw[q3]at D;have Z:=af (D.trans rfl);rw[e3]at zi;clear D;go_wp2;go_ret;rw[Z.out];exact⟨by simp,U.out⟩
  |false=>?_
  rw[q3]at D;have Z:=af (D.trans rfl);clear D;go_wp2;go_ret;rw[Z.out];exact⟨by simp,U.out⟩
end
namespace Ch
theorem Ik:∀(l:List Nat) (a b:Nat),l.Pairwise (· < ·)->(∀x∈l,a<=x/\x<b)->l.length<=b-a:=by
 intro l
 induction l with
 |nil=>simp_all
 |cons x l E=>?_
 intro a b D hm;rw[List.pairwise_cons]at D;have F:=hm x (by simp);have:=E (x+1) b D.2 (λy hy=>⟨D.1 y hy,(hm y (by simp[hy])).2⟩);grind
theorem EV{ss:List St}(h:sW ss)(S:Nat->Bool)(goals:List Int){i:Nat}(hi:i<ss.length):(dM ss S goals ss.length i).length<=ss.length:=by
 obtain⟨_,_,D,_,E⟩:=oG h S goals ss.length i hi (by omega);have:=Ik _ 0 ss.length E (λx hx=>⟨aG _,(D x hx).1⟩);omega
theorem zm(p:Nat->Bool)(c:Nat){l:List Nat}{k j:Nat}(h:l[k]? =some j):ju p c (l.take (k+1))=if p j then j else ju p c (l.take k):=by
 unfold ju;rw[gO,h,nM];rfl
theorem BF(p:Nat->Bool){c:Nat}{l:List Nat}(D:c∈l)(k:Nat):ju p c (l.take k)∈l:=by
 grind[mx]
def xH(ss:List St)(k:Nat)(g:Int):Bool:=decide (0<=g)&&(g==(k:Int)||aB ss k g)
theorem Ps(ss:List St)(goals:List Int)(k:Nat):oF ss goals k=goals.any (xH ss k):=rfl
end Ch
section
variable (B xb cb g:Nat) (pv:Value) (m:Ma) (l:List NV) (v:Value) (ol:Ol)
theorem Pt(on:List Bool)(b1:iN l.length on m.s.act)(Y:Rf l ol)(goals:List Int)(gv:Value)(B3:Nat)(dn:goals.length<=16)(cp:∀x∈goals,x<l.length):∀(N:Nat) (w:World) (i:Nat),l.length<=i+N->i<l.length->iA w xb cb g l.length pv m->kG w g on->jW w B cb l v->w.ownsRow B3 3 1 gv goals.length (bI goals)->
 Calls prog 239 #[.pointer (some ⟨xb,0,none⟩),.int .i64 i,gv] w λy w'=>∃u,y= .returned u/\w'.ownsRow w.heap.size 3 1 u (dM ol.ai (Ch.bit m.s.act) goals ol.ai.length i).length (bI (jx (dM ol.ai (Ch.bit m.s.act) goals ol.ai.length i)))/\Kp (λ_=>False) w w':=by
 obtain⟨i0,bo,b5,b6,b7⟩:=bY lX;intro N
 induction N with
 |zero=>intro w i h1 h2;omega
 |succ N ih=>
 intro w i hN hi h bb hF hg;have ds:=Y.le
 have a9:i<ol.ai.length:=by rw[Y.len];exact hi
 have dE:=wM Y.kg.qM (Ch.bit m.s.act) goals a9;have F:=bA (EV Y.kg.qM (Ch.bit m.s.act) goals a9) Y.kg.le;have cs:=tN (Ch.mk l) (i:Int)
 have EU:=λj (h:j∈fq (Ch.mk l) (i:Int))=>(show i<j/\j<l.length from by
  rw[pd Y]at h;have:=pI Y.kg.qM (cf.1 h)
  rw[Y.len]at this;exact this)
 have X:a_ ol.ai i=2->fq (Ch.mk l) (i:Int)≠[]:=λhk=>by
  obtain⟨j,_,hj⟩:=Y.kg.qM.CG i a9 (.inl hk);rw[pd Y];intro hz;have:=cf.2 hj;rw[hz]at this;cases this
 unfold mW at dE;rw[<-pd Y]at dE;rw[eI]at cs;obtain⟨ao,cap,rfl⟩:=hF.2.1.len
 obtain⟨y,hy⟩:∃y,l[i]? =some y:=⟨_,ar hi⟩
 rw[Y.kind hy]at dE X
 have dq:(i:Int)<(l.length:Int):=by omega
 have bk:=an w (.cells #[.int .i64 i] 3);have K1:Kp (λ_=>False) w (w.alloc (.cells #[.int .i64 i] 3)):=(Kp.refl _ _).alloc _
 have bx:(w.alloc (.cells #[.int .i64 i] 3)).ownsRow w.heap.size 3 1 (.slice (some ⟨w.heap.size,0,none⟩) 1 1) 1 (bI (jx [i])):=⟨rfl,.inr ⟨w.heap.size,1,_,rfl,aC _,bk,aC _,by unfold maxLen;omega,rfl,rfl⟩⟩
 have a4:=hF.au K1;have cV:=Nat.ne_of_lt (aR h);have cr:=Nat.ne_of_lt (aR bb)
 have ca:=λk hk=>Nat.ne_of_lt (hg.lt k hk).2
 have dt:(w.alloc (.cells #[.int .i64 i] 3)).heap.size=w.heap.size+1:=by simp only[World.alloc,Array.size_push]
 have E0:=af (nT _ B cb l _ (i:Int) a4 (by omega));generalize fq (Ch.mk l) (i:Int)=ks at*;have HL:=af EU;have am:=af (ae dE (ae F X));have QE:=af ih;have HH:=af (ae (h.az K1 (λx=>x):iA _ xb cb g l.length pv m) (ae a4 (ae (K1.at_ bb (λx=>x):kG _ g on) (ae (K1.owns hg (λ_ _ x=>x)) bx))));clear h hF bb EU dE ih F X a4 hg bx
 go_enter func239,ntmps239
 go_upto_region 2 with(fail)
 generalize w.alloc (.cells #[.int .i64 i] 3)=w1 at*;generalize sr:w.heap.size=ob at*;have c0:w1.cell? _=some (.pointer (some ⟨cb,0,none⟩)):=HH.out.1.cell 0
 go_wp2_with fail
 refine b9 E0 ?_;rintro z w2 ⟨u,rfl,hu,K2⟩;obtain⟨ua,uc,rfl⟩:=bn hu;have Z:=af (ae hu (ae (K1.trans K2) (ae (HH.out.1.az K2 (λx=>x):iA w2 xb cb g l.length pv m) (ae (HH.out.2.1.au K2) (ae (K2.at_ HH.out.2.2.1 (λx=>x):kG w2 g on) (ae (K2.owns HH.out.2.2.2.1 (λ_ _ x=>x)) (K2.owns HH.out.2.2.2.2 (λ_ _ x=>x))))))))
 have cw:∀k,(Value.slice ua ks.length uc).ownBlock=some k->k≠ob:=λk hk=>by have:=(hu.lt k hk).1;omega
 have RE:=K2.at_ bk (λx=>x);obtain⟨ga,gc,cq⟩:=bn Z.out.2.2.2.2.2.1;subst cq;have dc:=Z.out.2.1.size;clear hu K2 K1 E0 HH c0
 have Zn:=af (λ(W:World) (KW:Kp (λk=>k=ob) w2 W)=>show iA W xb cb g l.length pv m/\kG W g on/\jW W B cb l (.slice ao l.length cap)/\W.ownsRow B3 3 1 (.slice ga goals.length gc) goals.length (bI goals)/\W.ownsRow w1.heap.size 3 1 (.slice ua ks.length uc) ks.length (bI (jx ks))from
  ⟨Z.out.2.2.1.az KW cV,KW.at_ Z.out.2.2.2.2.1 cr,Z.out.2.2.2.1.oD KW (λi cur T hi _ hT e=>by
   subst e;rw[RE]at hi;simp only[bq,dI]at hi
   rcases hT with h|h|h|h<;>rw[h]at hi<;>exact absurd hi.2.1 (by decide)),KW.owns Z.out.2.2.2.2.2.1 ca,KW.owns Z.out.1 cw⟩)
 have a5:=Z.out.2.2.2.1;have c0:w2.cell? _=some (.pointer (some ⟨cb,0,none⟩)):=Z.out.2.2.1.cell 0;have zc:=a5.cell;obtain⟨g1,EE,hv,_,aI,_⟩:=a5.2.1.form hy;simp only[aK]at hv;obtain⟨rfl,-,rfl⟩:=hv;have zi:_=some _:=aI 1 (by omega);clear a5 aI
 cases q2:y.n.kind==2 with
 |true=>
  have e2:y.n.kind=2:=by simpa using q2
  have q3:(y.n.kind==3)=false:=by rw[e2];rfl
  have dE:=am.out.1;rw[q2]at dE;simp only[aV]at dE
  obtain⟨k0,kt,aO⟩:∃k0 kt,ks=k0::kt:=by
   have:=am.out.2.2 e2
   cases ks with
   |nil=>exact absurd rfl this
   |cons a b=>exact⟨a,b,rfl⟩
  have br:ks.headD 0=k0:=by rw[aO];rfl
  have cc:k0∈ks:=by rw[aO];simp
  have c8:0<ks.length:=by rw[aO];simp
  have cu:(0:Int)<(ks.length:Int):=by omega
  rw[br]at dE;obtain⟨g2,bi,aS,_⟩:=cR Z.out.1 (by omega);simp only[aK]at aS;obtain⟨rfl,-,rfl⟩:=aS
  have z0:w2.cell? ⟨g2,0,none⟩=some (.int .i64 k0):=by
   rw[bP Z.out.1 0 (by omega),aO];rfl
  have HS:=af dE;clear dE aO br
  go_wp2_with fail
  go_loopw [9,10] (λcv kv wr=>∃k:Nat,kv= .int .i64 k/\k<=ks.length/\cv= .int .i64 (ju (oF ol.ai goals) k0 (ks.take k):Nat)/\Kp (λ_=>False) w2 wr) (λ_ kv _=>ks.length-(intOf kv).toNat)
  case atStart=>exact⟨0,rfl,aG _,rfl,Kp.refl _ _⟩
  case round=>
   obtain⟨k,rfl,hk,rfl,KW⟩:=hrel
   by_cases O:k<ks.length
   ·have a1:(k:Int)<(ks.length:Int):=by omega
    obtain⟨G,aa⟩:∃G,ks[k]? =some G:=⟨_,ar O⟩
    have ce:=HL.out G (aM aa);have a3:=af (zm (oF ol.ai goals) k0 aa);generalize ju (oF ol.ai goals) k0 (ks.take k)=ck at*
    go_wp2_with fail
    go_loopw [9,11] (λcv jv wq=>∃j:Nat,jv= .int .i64 j/\j<=goals.length/\cv= .int .i64 ((if(goals.take j).any (xH ol.ai G)then G else ck:Nat):Int)/\Kp (λ_=>False) w2 wq) (λ_ jv _=>goals.length-(intOf jv).toNat)
    case atStart=>exact⟨0,rfl,aG _,rfl,KW⟩
    case round=>
     obtain⟨j,rfl,hj,rfl,KQ⟩:=hrel;have Zo:Kp (λk=>k=ob) _ _:=KQ.mono (λ_ _ x=>x.elim);obtain⟨hr,kh,fW,I,J⟩:=Zn.out wr Zo;have c0:wr.cell? _=some (.pointer (some ⟨cb,0,none⟩)):=hr.cell 0
     have zk:wr.cell? ⟨g2,k,none⟩=some (.int .i64 G):=by
      rw[bP J k (by omega)];simp[bI,jx,aa]
     by_cases a0:j<goals.length
     ·have Sq:(j:Int)<(goals.length:Int):=by omega
      obtain⟨gj,a8⟩:∃gj,goals[j]? =some gj:=⟨_,ar a0⟩
      have dd:=cp gj (aM a8);obtain⟨g3,yy,b4,_⟩:=cR I (by omega);simp only[aK]at b4;obtain⟨rfl,-,rfl⟩:=b4
      have zg:wr.cell? ⟨g3,j,none⟩=some (.int .i64 gj):=by
       rw[bP I j (by omega)];simp[bI,a8]
      have U:(goals.take (j+1)).any (xH ol.ai G)=((goals.take j).any (xH ol.ai G)||xH ol.ai G gj):=by
       rw[gO,a8,List.any_append];simp
      generalize (goals.take j).any (xH ol.ai G)=aj at*
      by_cases bm:0<=gj
      ·obtain⟨gn,rfl⟩:∃gn:Nat,gj=gn:=⟨gj.toNat,by omega⟩
       have E:=af (λnn=>oN (wr.drewN nn) B cb l _ G gn (fW.au ((Kp.refl _ _).drewN nn)) (by omega) Y.up (by omega))
       have hh:xH ol.ai G gn=((gn:Int)==(G:Int)||aB (Ch.ai l) G gn):=by unfold xH;rw[gz bm,gA,Y.ai]
       rw[hh]at U;generalize aB (Ch.ai l) G gn=ab at*;clear hr kh fW I J hh
       cases qe:(gn:Int)==(G:Int)with
       |true=>
        have HN:=af (show(goals.take (j+1)).any (xH ol.ai G)=true by rw[U,qe];simp);clear U
        go_upto_region 11 with(fail)
        go_quiet ((go_at_call 243;exact iZ (eE E _)))
        go_wp2
        go_roundw
        case rel=>exact⟨j+1,by go_num,by omega,by rw[HN.out];rfl,KQ.drewN _⟩
        case measure=>simp[intOf];omega
       |false=>?_
       have HN:=af (show(goals.take (j+1)).any (xH ol.ai G)=(aj||ab)by rw[U,qe];simp);clear U
       cases ab<;>
       (go_upto_region 11 with(fail)
        go_quiet ((go_at_call 243;exact iZ (eE E _)))
        go_wp2
        go_roundw
        case rel=>exact⟨j+1,by go_num,by omega,by rw[HN.out];cases aj<;>rfl,KQ.drewN _⟩
        case measure=>simp[intOf];omega)
      have dl:gj<0:=by omega
      have HN:=af (show(goals.take (j+1)).any (xH ol.ai G)=aj by rw[U];unfold xH;rw[e_ bm];simp);clear hr kh fW I J U
      go_upto_region 11 with(fail)
      go_quiet (fail)
      go_wp2
      go_roundw
      case rel=>exact⟨j+1,by go_num,by omega,by rw[HN.out],KQ.drewN _⟩
      case measure=>simp[intOf];omega
     have a7:¬(j:Int)<(goals.length:Int):=by omega
     obtain rfl:j=goals.length:=by omega
     rw[fD];have HN:=af a3.out;clear hr kh fW I J;go_wp2
     go_roundw
     case rel=>exact⟨k+1,by go_num,by omega,by rw[HN.out,Ps],KQ⟩
     case measure=>simp[intOf];omega
   have a7:¬(k:Int)<(ks.length:Int):=by omega
   obtain rfl:k=ks.length:=by omega
   rw[fD]
   have ci:ju (oF ol.ai goals) k0 ks∈ks:=by have:=BF (oF ol.ai goals) cc ks.length;rwa[fD]at this
   generalize ju (oF ol.ai goals) k0 ks=c1 at*
   go_wp2_with fail
   go_loopw [9,12] (λcv kv wr=>∃k:Nat,kv= .int .i64 k/\k<=ks.length/\cv= .int .i64 (ju (Ch.bit m.s.act) c1 (ks.take k):Nat)/\Kp (λ_=>False) w2 wr) (λ_ kv _=>ks.length-(intOf kv).toNat)
   case atStart=>exact⟨0,rfl,aG _,rfl,KW⟩
   case round=>
    obtain⟨k,rfl,hk,rfl,KQ⟩:=hrel;have Zo:Kp (λk=>k=ob) _ _:=KQ.mono (λ_ _ x=>x.elim);obtain⟨hr,kh,fW,I,J⟩:=Zn.out wr Zo
    by_cases O:k<ks.length
    ·have a1:(k:Int)<(ks.length:Int):=by omega
     obtain⟨G,aa⟩:∃G,ks[k]? =some G:=⟨_,ar O⟩
     have ce:=HL.out G (aM aa)
     have dg:(G:Int)<(l.length:Int):=by omega
     have dj:wr.cell? _=some (.slice (some ⟨g,0,none⟩) l.length l.length):=hr.cell 1
     have zk:wr.cell? ⟨g2,k,none⟩=some (.int .i64 G):=by
      rw[bP J k (by omega)];simp[bI,jx,aa]
     have Gh:=kh.cell (k:=G) (by have:=b1.1;omega);have ba:=zm (Ch.bit m.s.act) c1 aa;rw[<-b1.2.2 G]at ba;have a3:=af ba;generalize ju (Ch.bit m.s.act) c1 (ks.take k)=ck at*;generalize qA on G=ok at*;clear hr kh fW I J ba
     cases ok<;>
     (go_upto_region 16 with(fail)
      go_quiet (fail)
      go_wp2
      go_roundw
      case rel=>exact⟨k+1,by go_num,by omega,by rw[a3.out];rfl,KQ.drewN _⟩
      case measure=>simp[intOf];omega)
    have a7:¬(k:Int)<(ks.length:Int):=by omega
    obtain rfl:k=ks.length:=by omega
    rw[fD];have dE:=HS.out
    have cm:ju (Ch.bit m.s.act) c1 ks∈ks:=by have:=BF (Ch.bit m.s.act) ci ks.length;rwa[fD]at this
    generalize ju (Ch.bit m.s.act) c1 ks=c2 at*;have XA:=HL.out c2 cm;have E:=af (QE.out wr c2 (by omega) XA.2 hr kh fW I);have F:=am.out.2.1;rw[dE]at F;simp only[eh]at F
    have X:0<(dM ol.ai (Ch.bit m.s.act) goals ol.ai.length c2).length:=by
     rw[wM Y.kg.qM _ _ (by rw[Y.len];exact XA.2)];simp
    generalize dM ol.ai (Ch.bit m.s.act) goals ol.ai.length c2=nj at*;have HN:=af dE;have ho:=KQ.owns Z.out.2.2.2.2.2.2 (λ_ _ x=>x);have HX:=af (ae ho Zo);clear hr kh fW I J dE ho
    go_wp2_with fail
    refine b9 E ?_;rintro z w5 ⟨u5,rfl,Gj,K5⟩;obtain⟨g5,ap,bc,_⟩:=cR Gj X;subst bc;have ri:=K5.owns HX.out.1 (λ_ _ x=>x);have Nx:=HX.out.2.trans' K5 (λ_ _ x=>x.elim);have b2:=Nx.size;have cg:=aR RE
    have D:∀e u,(bI (jx nj))[e]? =some u->w5.cell? ((⟨g5,0,none⟩:Addr).add e)=some u:=by
     intro e u he;have O:=(aJ.1 he).1
     have bt:e<nj.length:=by simpa[bI,jx]using O
     have:=bP Gj e (by omega);rw[he]at this
     by_cases c:e=0
     ·subst c;simpa[Addr.add]using this
     simpa[Addr.add,c]using this
    go_wp2_with (at_builtin;refine kf (P:=prog) rfl (.tmp 110) (.tmp 111) 38 rfl ob 3 i0 (.int .i64 0) 1 8 underlying38 bo b5 b6 b7 rfl (by decide) (.slice (some ⟨ob,0,none⟩) 1 1) 1 (bI (jx [i])) rfl (by exact ri) ⟨g5,0,none⟩ nj.length ap (bI (jx nj)) rfl (by simp[bI,jx]) D (by intro u hu;simp[bI,jx]at hu;obtain⟨_,_,rfl⟩:=hu;rfl) X (by unfold maxLen;omega) (by omega) (by omega) ?_)
    intro g9 c9 w9 o9 TW Zp;have K9:=Nx.grown (by exact TW) (λe he O=>by simpa[Value.ownBlock]using he.symm);obtain⟨JH,_,a6,_,_⟩:=Zn.out w9 K9;have di:w9.cell? _=some (.pointer (some ⟨cb,0,none⟩)):=JH.cell 0;have dv:=a6.cell;obtain⟨dk,EX,b3,_,ad,_⟩:=a6.2.1.form hy;simp only[aK,bq,dH,bS,dx]at b3;obtain⟨rfl,rfl⟩:=b3;have dw:_=some _:=ad 1 (by omega);have Mo:=af (ae o9 (Z.out.2.1.trans' K9 (λi hi e=>by omega)));clear o9 TW K9 ri Nx Gj K5 D Zp JH a6 ad;go_wp2;go_ret;rw[HN.out];refine⟨_,rfl,?_,Mo.out.2⟩;have:=Mo.out.1;simp[bI,jx]at this⊢;rw[show nj.length+1=1+nj.length by omega]
    first|exact this|(rw[sr];exact this)
 |false=>?_
 cases q3:y.n.kind==3 with
 |true=>
  have e3:y.n.kind=3:=by simpa using q3
  have dE:=am.out.1;rw[q2,q3]at dE;simp only[bp,bj,aV]at dE;have F:=am.out.2.1;rw[dE]at F;simp only[eh]at F
  have a2:∀k,(i::(ks.take k).flatMap (dM ol.ai (Ch.bit m.s.act) goals ol.ai.length)).length<=16:=λk=>by
   have da:((ks.take k).flatMap (dM ol.ai (Ch.bit m.s.act) goals ol.ai.length)).length<=(ks.flatMap (dM ol.ai (Ch.bit m.s.act) goals ol.ai.length)).length:=by
    rw[<-lK k ks,nL,gu,lK];omega
   simp only[eh];omega
  have HS:=af dE;have HP:=af a2;clear dE F a2
  go_wp2_with fail
  go_loopw [7,14] (λov kv wr=>∃k:Nat,kv= .int .i64 k/\k<=ks.length/\wr.ownsRow ob 3 1 ov (i::(ks.take k).flatMap (dM ol.ai (Ch.bit m.s.act) goals ol.ai.length)).length (bI (jx (i::(ks.take k).flatMap (dM ol.ai (Ch.bit m.s.act) goals ol.ai.length))))/\Hid (∀e,ov.ownBlock=some e->e=ob\/w2.heap.size<=e)/\Kp (λk=>k=ob) w2 wr) (λ_ kv _=>ks.length-(intOf kv).toNat)
  case atStart=>exact⟨0,rfl,aG _,Z.out.2.2.2.2.2.2,af (λe he=>.inl (by simpa[Value.ownBlock]using he.symm)),Kp.refl _ _⟩
  case round=>
   obtain⟨k,rfl,hk,ho,be,KW⟩:=hrel
   by_cases O:k<ks.length
   ·have a1:(k:Int)<(ks.length:Int):=by omega
    obtain⟨hr,kh,fW,I,J⟩:=Zn.out wr KW
    obtain⟨j,hj⟩:∃j,ks[k]? =some j:=⟨_,ar O⟩
    have a0:=HL.out j (aM hj);obtain⟨g2,bi,aS,_⟩:=cR J (by omega);simp only[aK]at aS;obtain⟨rfl,-,rfl⟩:=aS
    have zk:wr.cell? ⟨g2,k,none⟩=some (.int .i64 j):=by
     rw[bP J k (by omega)];simp[bI,jx,hj]
    have E:=af (QE.out wr j (by omega) a0.2 hr kh fW I)
    have U:(ks.take (k+1)).flatMap (dM ol.ai (Ch.bit m.s.act) goals ol.ai.length)=(ks.take k).flatMap (dM ol.ai (Ch.bit m.s.act) goals ol.ai.length)++dM ol.ai (Ch.bit m.s.act) goals ol.ai.length j:=by
     rw[gO,hj,nL];simp
    have b0:=HP.out (k+1)
    have X:0<(dM ol.ai (Ch.bit m.s.act) goals ol.ai.length j).length:=by
     rw[wM Y.kg.qM _ _ (by rw[Y.len];exact a0.2)];simp
    rw[U]at b0;simp only[eh,gu]at b0;generalize dM ol.ai (Ch.bit m.s.act) goals ol.ai.length j=nj at*;generalize (ks.take k).flatMap (dM ol.ai (Ch.bit m.s.act) goals ol.ai.length)=fk at*;have Dk:=af U;have HX:=af (ae ho KW);obtain⟨oa,oc,ct⟩:=bn ho;subst ct;clear hr kh fW I J U ho KW
    go_wp2_with fail
    refine b9 E ?_;rintro z w5 ⟨u5,rfl,Gj,K5⟩;obtain⟨g5,ap,bc,_⟩:=cR Gj X;subst bc;have ri:=K5.owns HX.out.1 (λ_ _ x=>x);have Nx:=HX.out.2.trans' K5 (λ_ _ x=>x.elim);have b2:=Nx.size;have cg:=aR RE
    have D:∀e u,(bI (jx nj))[e]? =some u->w5.cell? ((⟨g5,0,none⟩:Addr).add e)=some u:=by
     intro e u he;have O:=(aJ.1 he).1
     have bt:e<nj.length:=by simpa[bI,jx]using O
     have:=bP Gj e (by omega);rw[he]at this
     by_cases c:e=0
     ·subst c;simpa[Addr.add]using this
     simpa[Addr.add,c]using this
    go_wp2_with (at_builtin;refine kf (P:=prog) rfl (.tmp 138) (.tmp 139) 38 rfl ob 3 i0 (.int .i64 0) 1 8 underlying38 bo b5 b6 b7 rfl (by decide) (.slice oa (i::fk).length oc) (i::fk).length (bI (jx (i::fk))) rfl (by exact ri) ⟨g5,0,none⟩ nj.length ap (bI (jx nj)) rfl (by simp[bI,jx]) D (by intro u hu;simp[bI,jx]at hu;obtain⟨_,_,rfl⟩:=hu;rfl) X (by unfold maxLen;simp only[eh];omega) (by simp only[eh];omega) (by omega) ?_)
    intro g9 c9 w9 o9 TW Zp
    have K9:Kp (λk=>k=ob) w2 w9:=Nx.grown (by exact TW) (λe he O=>by
     rcases be.out e (by simpa[Value.ownBlock]using he)with h|h
     ·exact h
     omega)
    have Mo:=af (ae o9 (ae K9 (show∀e,(Value.slice (some ⟨g9,0,none⟩) ((i::fk).length+nj.length) c9).ownBlock=some e->e=ob\/w2.heap.size<=e from λe he=>by
     have cn:g9=e:=by simpa[Value.ownBlock]using he
     subst cn
     rcases Zp with h|h
     ·exact be.out _ (by simpa[Value.ownBlock]using h)
     exact .inr (by omega))))
    clear o9 TW K9 ri Nx Gj K5 D Zp;go_wp2
    go_roundw
    case rel=>
     refine⟨k+1,by go_num,by omega,?_,af (by first|exact Mo.out.2.2|(have:=Mo.out.2.2;simpa using this)),Mo.out.2.1⟩;rw[Dk.out];have:=Mo.out.1;simp[bI,jx]at this⊢;rw[show fk.length+nj.length+1=fk.length+1+nj.length by omega];exact this
    case measure=>simp[intOf];omega
   have a7:¬(k:Int)<(ks.length:Int):=by omega
   obtain rfl:k=ks.length:=by omega
   rw[fD]at ho;have HX:=af (ae ho (Z.out.2.1.trans' KW (λi hi e=>by omega)));clear ho KW;go_wp2;go_ret;rw[HS.out];exact⟨_,rfl,by first|exact HX.out.1|(rw[sr];exact HX.out.1),HX.out.2⟩
 |false=>?_
 have dE:=am.out.1;rw[q2,q3]at dE;have HS:=af (dE.trans (show _=[i]from rfl));clear dE;go_wp2;go_ret;rw[HS.out];exact⟨_,rfl,by rw[sr];exact Z.out.2.2.2.2.2.2,Z.out.2.1⟩
end
namespace Ch
theorem Pu(j:Nat):∀(l:List Tr) (n t:Nat) (x:Tr),l[t]? =some x->pE j x=true->∃k:Nat,(AE j l n)[k]? =some (n+t):=by
 intro l
 induction l with
 |nil=>simp_all
 |cons a l E=>?_
 intro n t x h D;simp only[AE]
 cases t with
 |zero=>simp at h;subst h;rw[D];exact⟨0,by simp⟩
 |succ t=>?_
 obtain⟨k,hk⟩:=E (n+1) t x (by simpa using h) D;rw[show n+1+t=n+(t+1)by omega]at hk
 cases pE j a with
 |true=>exact⟨k+1,by simpa using hk⟩
 |false=>grind
theorem Mp{ol:Ol}(F:z9 ol){t:Nat}(D:t<ol.cW.length):∃a:Nat,gG ol t=a/\O0 ol t a (Dj ol t):=by
 have E:=ar D;obtain⟨a,G,_⟩:=F.src _ (List.getElem_mem D);obtain⟨k,hk⟩:=Pu a ol.cW 0 t _ E (by unfold pE;rw[G];simp);rw[gw]at hk;have hm:=TP hk;refine⟨a,hm.st,?_⟩;rw[hm.rk];exact hm
end Ch
theorem Rf.mv{l:List NV}{ol:Ol}(h:Rf l ol){t:Nat}(U:t<ol.cW.length):∃(a:Nat) (nd:NV) (rt:RT) (x:Tr),gG ol t=a/\a<l.length/\Xx l ol t a (Dj ol t) nd rt x:=by
 obtain⟨a,O,hm⟩:=Mp h.kg U;obtain⟨nd,rt,x,D,E,F,G,I,J⟩:=h.move hm;exact⟨a,nd,rt,x,O,(aJ.1 D).1,⟨D,E,F,G,I,J⟩⟩
section
variable (w:World) (B xb cb g:Nat) (pv:Value) (m:Ma) (l:List NV) (v:Value) (ol:Ol)
theorem pe(trg:Int)(on:List Bool)(h:iA w xb cb g l.length pv m)(aO:kG w g on)(ba:iN l.length on m.s.act)(hI:Ch.Inv ol m.s)(hF:jW w B cb l v)(hR:Rf l ol):
 Calls prog 205 #[.pointer (some ⟨xb,0,none⟩),.int .u8 trg] w λy w'=>∃u,y= .returned u/\w'.ownsRow w.heap.size 301 2 u (Ch.choose ol m.s trg).length (gJ ol (Ch.choose ol m.s trg))/\Kp (λ_=>False) w w':=by
 obtain⟨i0,a6,bi,bk,bm⟩:=bY Pr;obtain⟨d,hd,kJ⟩:=ze;have E0:=af (Ij w B xb cb g pv m l v ol trg on h aO ba hI hF hR);have O:=xO ol m.s trg;have cq:=bA O.2 hR.kg.le;have a4:Ch.choose ol m.s trg=eV ol m.s _ []:=rfl;obtain⟨ao,cap,rfl⟩:=hF.2.1.len;have cr:=hR.le;rw[a4];generalize Ch.find ol m.s trg=G at*;have br:=af O.1;have HH:=af (ae h (ae hF aO));clear h hF aO O a4
 go_enter func205,ntmps205
 go_wp2_with fail
 refine b9 E0 ?_;rintro y w2 ⟨u,rfl,hu,K2⟩;obtain⟨ua,uc,rfl⟩:=bn hu;have HU:=af (ae hu (ae K2 (ae (HH.out.1.az K2 (λx=>x):iA w2 xb cb g l.length pv m) (ae (HH.out.2.1.au K2) (K2.at_ HH.out.2.2 (λx=>x):kG w2 g on)))));have cg:=K2.size;clear hu K2 E0 HH
 go_wp2_with fail
 go_loopw [5,7] (λlv kv wr=>∃(k:Nat) (acc:List Int),kv= .int .i64 k/\k<=G.length/\acc.length<=k/\Hid (wZ ol acc)/\wr.ownsRow w.heap.size 301 2 lv acc.length (gJ ol acc)/\Hid (eV ol m.s G []=eV ol m.s (G.drop k) acc)/\Kp (λ_=>False) w2 wr) (λ_ kv _=>G.length-(intOf kv).toNat)
 case atStart=>exact⟨0,[],rfl,aG _,aC _,af (by intro n hn;cases hn),bT _ _ _ _,af rfl,Kp.refl _ _⟩
 case round=>
  obtain⟨k,acc,rfl,hk,cp,Wn,ho,HC,KW⟩:=hrel
  by_cases Z:k<G.length
  ·have ce:(k:Int)<(G.length:Int):=by omega
   have am:=KW.owns HU.out.1 (λ_ _ x=>x)
   obtain⟨ti,a0⟩:∃ti,G[k]? =some ti:=⟨_,ar Z⟩
   have XB:=br.out ti (aM a0)
   obtain⟨t,rfl⟩:∃t:Nat,ti=t:=⟨ti.toNat,by omega⟩
   have bb:t<ol.cW.length:=by omega
   obtain⟨a,nd,rt,x,aS,Sk,a7⟩:=hR.mv bb;obtain⟨g2,cc,bc,_⟩:=cR am (by omega);simp only[aK]at bc;obtain⟨rfl,-,rfl⟩:=bc;obtain⟨q0,q1⟩:=lU ol G k t a0;rw[db]at q0 q1;rw[aS]at q0;have z0:=(bP am (k*2) (by omega)).trans q0;have z1:=(bP am (k*2+1) (by omega)).trans q1
   have a5:G.drop k=(t:Int)::G.drop (k+1):=by
    rw[eZ Z];congr 1;exact(aJ.1 a0).2
   have Y:eV ol m.s G []=eV ol m.s (G.drop (k+1)) (lD ol m.s acc t):=by rw[HC.out,a5];rfl
   have U:=ys (s:=m.s) bb Wn.out
   have D:lD ol m.s acc t=if acc.all (λx=>!(Ch.meets (Ch.leaves ol m.s t) (Ch.leaves ol m.s x.toNat))||Ch.within ol t x.toNat)then acc.filter (λx=>!(Ch.meets (Ch.leaves ol m.s t) (Ch.leaves ol m.s x.toNat)))++[(t:Int)]else acc:=by
    unfold lD;rw[LY]
    cases acc.all (λx=>!(Ch.meets (Ch.leaves ol m.s t) (Ch.leaves ol m.s x.toNat))||Ch.within ol t x.toNat)<;>simp
   generalize aI:Dj ol t=mk at*;have a3:=an wr (.cells #[.int .i64 a,.int .i64 mk] 301);have K4:Kp (λ_=>False) wr (wr.alloc (.cells #[.int .i64 a,.int .i64 mk] 301)):=(Kp.refl _ _).alloc _;have Wm:=K4.owns ho (λ_ _ x=>x);have uS:=KW.trans K4;have bo:=af (ae Y (ae U D));have HO:=af (ae ho KW);clear am q0 q1 a5 Y U D ho KW HC K4
   go_upto_region 7 with(fail)
   generalize wr.alloc (.cells #[.int .i64 a,.int .i64 mk] 301)=w4 at*;generalize sr:wr.heap.size=ob at*;have HZ:=af (ae a3 (ae Wm uS));obtain⟨la,lc,b3⟩:=bn Wm;subst b3;have ci:=uS.size;clear a3 Wm uS z0 z1
   go_wp2_with fail
   go_loopw [9,10,11] (λwv jo jv wq=>∃j:Nat,jv= .int .i64 j/\j<=acc.length/\jo= .bool ((acc.take j).all (λx=>!(Ch.meets (Ch.leaves ol m.s t) (Ch.leaves ol m.s x.toNat))||Ch.within ol t x.toNat))/\wq.ownsRow w4.heap.size 301 2 wv ((acc.take j).filter (λx=>!(Ch.meets (Ch.leaves ol m.s t) (Ch.leaves ol m.s x.toNat)))).length (gJ ol ((acc.take j).filter (λx=>!(Ch.meets (Ch.leaves ol m.s t) (Ch.leaves ol m.s x.toNat)))))/\Kp (λ_=>False) w4 wq) (λ_ _ jv _=>acc.length-(intOf jv).toNat)
   case atStart=>exact⟨0,rfl,aG _,rfl,bT _ _ _ _,Kp.refl _ _⟩
   case round=>
    obtain⟨j,rfl,hj,rfl,E,X⟩:=hrel
    by_cases b2:j<acc.length
    ·have Sq:(j:Int)<(acc.length:Int):=by omega
     have Zq:=HZ.out.2.2.trans X;have hq:=HU.out.2.2.1.az Zq (λx=>x);have yQ:=HU.out.2.2.2.1.au Zq;have Pv:kG _ _ _:=Zq.at_ HU.out.2.2.2.2 (λx=>x);have F:=X.at_ HZ.out.1 (λx=>x);have ad:=X.owns HZ.out.2.1 (λ_ _ x=>x)
     obtain⟨oi,aa⟩:∃oi,acc[j]? =some oi:=⟨_,ar b2⟩
     have ck:=Wn.out oi (aM aa)
     obtain⟨o,rfl⟩:∃o:Nat,oi=o:=⟨oi.toNat,by omega⟩
     obtain⟨a2,Zh,Zj,x2,Vl,cm,bt⟩:=hR.mv (t:=o) (by omega);obtain⟨g3,yy,be,_⟩:=cR ad (by omega);simp only[aK]at be;obtain⟨rfl,-,rfl⟩:=be;obtain⟨q0,q1⟩:=lU ol acc j o aa;rw[db]at q0 q1;rw[Vl]at q0;have y0:=(bP ad (j*2) (by omega)).trans q0;have y1:=(bP ad (j*2+1) (by omega)).trans q1
     have t0:wr.cell? ⟨ob,0,none⟩=some (.int .i64 a):=by rw[World.cell?,F];rfl
     have t1:wr.cell? ⟨ob,1,none⟩=some (.int .i64 mk):=by rw[World.cell?,F];rfl
     have KD:Kp (λ_=>False) wr _:=(Kp.refl _ _).drew;rw[<-aI]at a7;have E1:=af (Mj wr.drew B xb cb g pv m l _ ol t a _ o a2 _ nd Zh rt Zj x x2 on (hq.az KD (λx=>x)) (KD.at_ Pv (λx=>x)) ba (yQ.au KD) hR a7 bt)
     have QV:Ch.within ol t o=aB (Ch.ai l) a2 a:=by unfold Ch.within;rw[aS,Vl,hR.ai]
     have J:(acc.take (j+1)).all (λx=>!(Ch.meets (Ch.leaves ol m.s t) (Ch.leaves ol m.s x.toNat))||Ch.within ol t x.toNat)=((acc.take j).all (λx=>!(Ch.meets (Ch.leaves ol m.s t) (Ch.leaves ol m.s x.toNat))||Ch.within ol t x.toNat)&&(!(Ch.meets (Ch.leaves ol m.s t) (Ch.leaves ol m.s o))||Ch.within ol t o)):=by
      rw[gO,aa,List.all_append];simp
     have ap:(acc.take (j+1)).filter (λx=>!(Ch.meets (Ch.leaves ol m.s t) (Ch.leaves ol m.s x.toNat)))=(acc.take j).filter (λx=>!(Ch.meets (Ch.leaves ol m.s t) (Ch.leaves ol m.s x.toNat)))++(if Ch.meets (Ch.leaves ol m.s t) (Ch.leaves ol m.s o)then[]else[(o:Int)]):=by
      rw[gO,aa,ic]
      congr 1
      cases b4:Ch.meets (Ch.leaves ol m.s t) (Ch.leaves ol m.s o)<;>simp[b4]
     rw[aI]at E1;rw[QV]at J;have b6:=hR.up;generalize b5:Dj ol o=mo at*;have HL:=af (ae J ap)
     have bx:((acc.take j).filter (λx=>!(Ch.meets (Ch.leaves ol m.s t) (Ch.leaves ol m.s x.toNat)))).length<=16:=by
      have h1:=l8 (λx=>!(Ch.meets (Ch.leaves ol m.s t) (Ch.leaves ol m.s x.toNat))) (acc.take j)
      have h2:(acc.take j).length<=j:=by simp;omega
      omega
     have zn:=rA ol ((acc.take j).filter (λx=>!(Ch.meets (Ch.leaves ol m.s t) (Ch.leaves ol m.s x.toNat)))) (o:Int)
     have a9:xj ol (o:Int)=[.int .i64 a2,.int .i64 mo]:=by unfold xj;rw[db,Vl,b5]
     have Dk:=af (ae zn a9);generalize (acc.take j).filter (λx=>!(Ch.meets (Ch.leaves ol m.s t) (Ch.leaves ol m.s x.toNat)))=TX at*;generalize (acc.take j).all (λx=>!(Ch.meets (Ch.leaves ol m.s t) (Ch.leaves ol m.s x.toNat))||Ch.within ol t x.toNat)=aj at*;generalize Ch.meets (Ch.leaves ol m.s t) (Ch.leaves ol m.s o)=mt at*;have HQ:=af (ae hq (ae yQ (ae E (ae X KD))));obtain⟨wa,wc,a1⟩:=bn E;subst a1;clear hq yQ Pv F ad q0 q1 QV J ap zn a9 E X Zq KD
     go_upto_region 12 with(fail)
     go_region_held3 (λw'=>w'.cell? ⟨ob,0,none⟩=some (.int .i64 a)/\w'.cell? ⟨ob,1,none⟩=some (.int .i64 mk)/\w'.cell? ⟨g3,j*2,none⟩=some (.int .i64 a2)/\w'.cell? ⟨g3,j*2+1,none⟩=some (.int .i64 mo)) (first|exact⟨t0,t1,y0,y1⟩|exact HS.out) ((go_at_call 242;refine b9 E1 ?_;rintro y w5 ⟨rfl,K5⟩;have H:=af K5;have HS:=af (ae (K5.bX t0) (ae (K5.bX t1) (ae (K5.bX y0) (K5.bX y1))));clear E1 K5))
     obtain⟨s0,s1,r0,r1⟩:=HS.out;have Zr:=HQ.out.2.2.2.2.trans H.out;have Ny:=HQ.out.2.1.au Zr;have h5:=HQ.out.1.az Zr (λx=>x);have b0:w5.cell? _=some (.pointer (some ⟨cb,0,none⟩)):=h5.cell 0;have E2:=af (λnn=>oN (w5.drewN nn) B cb l _ a2 a (Ny.au ((Kp.refl _ _).drewN nn)) Sk b6 (by omega));generalize aB (Ch.ai l) a2 a=wi at*;have ri:=Zr.owns HQ.out.2.2.1 (λ_ _ x=>x);have Nx:=HQ.out.2.2.2.1.trans Zr;clear H HS HQ Ny h5 t0 t1 y0 y1
     go_upto_region 13 with(fail)
     go_quiet ((go_at_call 243;exact iZ (eE E2 _)))
     have Aq:=((Kp.refl (λ_=>False) w5).drewN nq).owns ri (λ_ _ x=>x);have Re:=Nx.drewN nq;have cn:=Re.size;clear E2 ri Nx
     cases mt with
     |true=>
      have HX:=af (ae Aq Re);clear Aq Re
      cases wi
      ·go_wp2
       go_roundw
       case rel=>exact⟨j+1,by go_num,by omega,by rw[HL.out.1];cases aj<;>rfl,by rw[HL.out.2];simpa using HX.out.1,HX.out.2⟩
       case measure=>simp[intOf];omega
      go_wp2
      go_roundw
      case rel=>exact⟨j+1,by go_num,by omega,by rw[HL.out.1];cases aj<;>rfl,by rw[HL.out.2];simpa using HX.out.1,HX.out.2⟩
      case measure=>simp[intOf];omega
     |false=>?_
     have b7:(w5.drewN nq).cell? _=_:=r0;have ca:(w5.drewN nq).cell? _=_:=r1;clear r0 r1 s0 s1 b0;generalize w5.drewN nq=w6 at*
     go_wp2_with (at_builtin;refine hJ (P:=prog) _ rfl (.tmp 59) (.tmp 64) 276 rfl w4.heap.size 301 i0 (.agg #[.int .i64 0,.int .i64 0]) 2 16 underlying276 a6 bi bk bm rfl (by decide) (.slice wa TX.length wc) TX.length (gJ ol TX) rfl (by exact Aq.alloc _) ⟨w6.heap.size,0,none⟩ 1 1 [.int .i64 a2,.int .i64 mo] rfl rfl (by exact lP _ _ _ _) (by intro u hu;simp at hu;rcases hu with rfl|rfl<;>rfl) (by unfold maxLen;omega) (by omega) (by simp;omega) ?_)
     intro v' w9 o9 g9 _;have K9:=(Re.alloc (.cells #[.int .i64 a2,.int .i64 mo] 301)).grown (by exact g9) (λj hj Z=>by have:=(Aq.lt j hj).1;omega);have Mo:=af (ae o9 K9);clear o9 g9 K9 Aq Re b7 ca;go_wp2
     go_roundw
     case rel=>
      refine⟨j+1,by go_num,by omega,by rw[HL.out.1];cases aj<;>rfl,?_,Mo.out.2⟩;rw[HL.out.2];simp only[bp,bj];rw[Dk.out.1,Dk.out.2];have:=Mo.out.1;simpa using this
     case measure=>simp[intOf];omega
    have b1:¬(j:Int)<(acc.length:Int):=by omega
    obtain rfl:j=acc.length:=by omega
    rw[fD]at E⊢;have Y:=bo.out;have F:=X.at_ HZ.out.1 (λx=>x);have KF:=HZ.out.2.2.trans X
    have t0:wr.cell? ⟨ob,0,none⟩=some (.int .i64 a):=by rw[World.cell?,F];rfl
    have t1:wr.cell? ⟨ob,1,none⟩=some (.int .i64 mk):=by rw[World.cell?,F];rfl
    have xF:xj ol (t:Int)=[.int .i64 a,.int .i64 mk]:=by unfold xj;rw[db,aS,aI]
    have bx:=l8 (λx=>!(Ch.meets (Ch.leaves ol m.s t) (Ch.leaves ol m.s x.toNat))) acc;have zn:=rA ol (acc.filter (λx=>!(Ch.meets (Ch.leaves ol m.s t) (Ch.leaves ol m.s x.toNat)))) (t:Int);rw[xF]at zn;have iG:=KF.size;have cs:=X.size;generalize acc.filter (λx=>!(Ch.meets (Ch.leaves ol m.s t) (Ch.leaves ol m.s x.toNat)))=TX at*;generalize acc.all (λx=>!(Ch.meets (Ch.leaves ol m.s t) (Ch.leaves ol m.s x.toNat))||Ch.within ol t x.toNat)=aj at*;obtain⟨I,U,D⟩:=Y
    cases aj with
    |false=>
     simp only[bp,bj]at D;rw[D]at I U;have HN:=af (ae I U);have a8:=X.owns HZ.out.2.1 (λ_ _ x=>x);have HX:=af (ae a8 KF);clear I U D E a8 KF zn xF F;go_wp2
     go_roundw
     case rel=>exact⟨k+1,acc,by go_num,by omega,by omega,af HN.out.2.1,HX.out.1,af HN.out.1,HX.out.2⟩
     case measure=>simp[intOf];omega
    |true=>?_
    simp only[aV]at D;rw[D]at I U;have HN:=af (ae I (ae U zn));obtain⟨wa,wc,a1⟩:=bn E;subst a1;clear I U D zn xF F
    go_wp2_with (at_builtin;refine hJ (P:=prog) _ rfl (.tmp 67) (.tmp 69) 276 rfl w4.heap.size 301 i0 (.agg #[.int .i64 0,.int .i64 0]) 2 16 underlying276 a6 bi bk bm rfl (by decide) (.slice wa TX.length wc) TX.length (gJ ol TX) rfl (by exact E.alloc _) ⟨wr.heap.size,0,none⟩ 1 1 [.int .i64 a,.int .i64 mk] rfl rfl (by exact lP _ _ _ _) (by intro u hu;simp at hu;rcases hu with rfl|rfl<;>rfl) (by unfold maxLen;omega) (by omega) (by simp;omega) ?_)
    intro v' w9 o9 g9 _;have K9:=(KF.alloc (.cells #[.int .i64 a,.int .i64 mk] 301)).grown (by exact g9) (λj hj Z=>by have:=(E.lt j hj).1;omega);have Mo:=af (ae (dY o9 (show w.heap.size<=w4.heap.size by omega)) K9);clear o9 g9 K9 E KF t0 t1;go_wp2
    go_roundw
    case rel=>
     refine⟨k+1,TX++[(t:Int)],by go_num,by omega,by simp;omega,af HN.out.2.1.1,?_,af HN.out.1,Mo.out.2⟩;rw[HN.out.2.2];have:=Mo.out.1;simpa using this
    case measure=>simp[intOf];omega
  have b1:¬(k:Int)<(G.length:Int):=by omega
  obtain rfl:k=G.length:=by omega
  have HN:=af (HC.out.trans (show _=acc by rw[List.drop_length];rfl));go_wp2;go_ret;rw[HN.out];exact⟨_,rfl,ho,HU.out.2.1.trans KW⟩
end
namespace Ch
theorem JK{l:List NV}{ol:Ol}(h:Rf l ol):mw (mk l)=(List.range ol.ai.length).filter (gY ol.ai):=by
 unfold mw;rw[h.len,eI];apply List.filter_congr;intro i hi;rw[<-h.ai];exact(RU (L:=mk l) (by rw[eI];simpa using hi)).symm
theorem vH{l:List NV}{ol:Ol}(h:Rf l ol)(s:Sd):kD ol.ai s=(mw (mk l)).map (bN s):=by unfold kD;rw[JK h]
theorem Mq{L:List RN}{i:Nat}(hi:i<L.length)(hk:(fm L i).kind=5):i∈mw L:=by
 grind[mw]
theorem Il{ss:List St}{s:Sd}{g:Nat}(h:(a_ ss g !=5)=true):kA ss s g=g:=by
 unfold kA;rw[h];simp
theorem Mr{ss:List St}{s:Sd}{g:Nat}(D:g<16)(h:(a_ ss g !=5)=false):kA ss s g=if bN s g==45 then dZ ss (aN ss g)else place ss (bN s g):=by
 grind[kA]
end Ch
def eO(w:World)(base:Nat)(v:Value)(n:Nat)(xs:List Value):Prop:=
 xs.length=n/\((v= .slice none 0 0/\n=0)\/∃g cap D E,v= .slice (some ⟨g,0,none⟩) n cap/\base<=g/\w.heap[g]? =some (.cells D 5 E)/\(E=(0,0)\/D.size<=E.1)/\n<=D.size/\D.toList.take n=xs)
section
variable {w w':World} {base g cap:Nat} {v:Value} {n:Nat} {xs:List Value}
theorem eO.of(h:w.ownsRow base 5 1 v n xs):eO w base v n xs:=by
 refine⟨by simpa using h.1,?_⟩
 rcases h.2 with E|⟨g,cap,D,O,hb,J,F,_,G,I⟩
 ·simp_all
 grind
theorem eO.az{S:Nat->Prop}(h:eO w base v n xs)(k:Kp S w w')(hs:∀i,v.ownBlock=some i->¬S i):eO w' base v n xs:=by
 refine⟨h.1,?_⟩
 rcases h.2 with G|⟨g,cap,D,E,rfl,hb,F,r⟩
 ·simp_all
 exact .inr ⟨g,cap,D,E,rfl,hb,k.at_ F (hs g rfl),r⟩
theorem eO.block(h:eO w base v n xs){k:Nat}(hk:v.ownBlock=some k):base<=k/\∃D E,w.heap[k]? =some (.cells D 5 E):=by
 rcases h.2 with⟨rfl,_⟩|⟨g,cap,D,E,rfl,hb,F,_⟩
 ·simp[Value.ownBlock]at hk
 simp[Value.ownBlock]at hk;simp_all
theorem eO.ne(h:eO w base v n xs){b:Nat}{c:Array Value}{T:TypeId}{f:Nat×Nat}(hb:w.heap[b]? =some (.cells c T f))(F:5≠T):v.ownBlock≠some b:=λhk=>by
 obtain⟨_,E,G,D⟩:=h.block hk;rw[hb]at D;simp only[bq,dI]at D;exact F D.2.1.symm
theorem eO.lt(h:eO w base v n xs)(k:Nat)(hk:v.ownBlock=some k):base<=k/\k<w.heap.size:=by
 obtain⟨hb,_,_,D⟩:=h.block hk;grind
theorem eO.len(h:eO w base v n xs):∃D cap,v= .slice D n cap:=by
 rcases h.2 with⟨rfl,rfl⟩|⟨g,cap,E,F,rfl,_⟩
 ·simp_all
 simp_all
theorem eO.apart(h:eO w base v n xs){D:Nat}{e:TypeId}{size:Nat}{u:Value}{J:Nat}{E:List Value}(F:w.ownsRow D e size u J E)(G:e≠5)(k:Nat)(hk:u.ownBlock=some k):v.ownBlock≠some k:=λhv=>by
 obtain⟨_,_,_,I⟩:=h.block hv;exact aZ F I G hk
theorem eO.form(h:eO w base v n xs)(G:0<n):∃g cap,v= .slice (some ⟨g,0,none⟩) n cap/\base<=g/\g<w.heap.size:=by
 rcases h.2 with⟨_,rfl⟩|⟨g,cap,D,E,rfl,hb,F,_⟩
 ·omega
 grind
theorem eO.cellAt(h:eO w base (.slice (some ⟨g,0,none⟩) n cap) n xs)(j:Nat)(I:j<n):w.cell? ⟨g,j,none⟩=xs[j]?:=by
 rcases h.2 with⟨D,_⟩|⟨U,E,F,O,D,_,G,_,_,J⟩
 ·omega
 simp only[aK,bq,dH,dx,bS]at D;obtain⟨rfl,rfl⟩:=D;rw[World.cell?,G,<-J,List.getElem?_take,aq I];simp
theorem eO.free(h:eO w base (.slice (some ⟨g,0,none⟩) n cap) n xs)(j:Nat)(U:j<n):w.frozen? ⟨g,j,none⟩=false:=by
 rcases h.2 with⟨D,_⟩|⟨J,E,F,G,D,_,I,O,X,_⟩
 ·omega
 simp only[aK,bq,dH,dx,bS]at D;obtain⟨rfl,rfl⟩:=D;obtain⟨lo,hi⟩:=G;simp only[World.frozen?,I]
 grind
theorem eO.stored(h:eO w base (.slice (some ⟨g,0,none⟩) n cap) n xs)(j:Nat)(u:Value):eO (w.setCell ⟨g,j,none⟩ u) base (.slice (some ⟨g,0,none⟩) n cap) n (xs.set j u):=by
 rcases h.2 with⟨D,_⟩|⟨X,E,F,G,D,hb,J,I,O,U⟩
 ·simp_all
 simp only[aK,bq,dH,dx,bS]at D;obtain⟨rfl,rfl⟩:=D;refine⟨by rw[jb];exact h.1,.inr ⟨g,cap,_,G,rfl,hb,ak _ J,by simpa using I,by simpa using O,?_⟩⟩;rw[<-U];simp[List.take_set]
theorem eO.text{l:List Int}(h:eO w base v l.length (aD l)):(convert 47 9 v).run prog w= .ok (.string (strOfNums l)) w:=by
 rcases h.2 with⟨rfl,E⟩|⟨g,cap,D,F,rfl,r⟩
 ·have:=pR E
  subst this;exact run_convert_bytes_nil w 47 5 underlying47 underlying5 0 0 9 underlying9
 refine ld w 47 5 underlying47 underlying5 g 0 l.length cap l rfl ?_ 9 underlying9;intro i hi;rw[gw,h.cellAt i (by omega)];grind[aD]
end
def JL(w:World)(B:Nat)(ol:Ol)(s:Sd)(pv:Value):Prop:=eO w B pv (kD ol.ai s).length (aD (kD ol.ai s))
section
variable (w:World) (B B2 xb cb g:Nat) (pv:Value) (m:Ma) (l:List NV) (v:Value) (ol:Ol)
theorem Ms(t a k:Nat)(nd:NV)(rt:RT)(x:Tr)(h:iA w xb cb g l.length pv m)(a7:JL w B2 ol m.s pv)(hI:Ch.Inv ol m.s)(hF:jW w B cb l v)(I:Rf l ol)(hm:Xx l ol t a k nd rt x):
 Calls prog 248 #[.pointer (some ⟨xb,0,none⟩),.agg #[.int .i64 a,.int .i64 k]] w λy w'=>y= .returned (.int .i64 (j6 ol m.s t))/\Kp (λ_=>False) w w':=by
 have F:j6 ol m.s t=if x.target==45 then-1 else kA ol.ai m.s (Ch.place ol.ai x.target):=by unfold j6;rw[db,hm.zY]
 have br:=I.le;obtain⟨ao,cap,rfl⟩:=hF.2.1.len;have aS:=an w (.cells #[.int .i64 a,.int .i64 k] 301);have K1:Kp (λ_=>False) w (w.alloc (.cells #[.int .i64 a,.int .i64 k] 301)):=(Kp.refl _ _).alloc _;have aO:=hF.au K1;have h1:iA _ xb cb g l.length pv m:=h.az K1 (λx=>x);have XC:JL _ B2 ol m.s pv:=eO.az a7 K1 (λ_ _ x=>x);have E1:=af (xi _ B xb cb g l.length pv m l _ a k nd rt x h1 aO br hm.lG hm.xF hm.eD hm.iG);have HH:=af (ae h1 (ae aO (ae XC F)));clear h hF h1 aO a7 XC F
 go_enter func248,ntmps248
 go_upto_region 1 with(fail)
 generalize w.alloc (.cells #[.int .i64 a,.int .i64 k] 301)=w1 at*;generalize w.heap.size=ob at*
 have m0:w1.cell? ⟨ob,0,none⟩=some (.int .i64 a):=by rw[World.cell?,aS];rfl
 have m1:w1.cell? ⟨ob,1,none⟩=some (.int .i64 k):=by rw[World.cell?,aS];rfl
 go_wp2_with fail
 refine b9 E1 ?_;rintro y w2 ⟨rfl,K2⟩;have h2:=HH.out.1.az K2 (λx=>x);have Y:=HH.out.2.1.au K2;have Vm:JL _ _ _ _ _:=eO.az HH.out.2.2.1 K2 (λ_ _ x=>x);have c0:w2.cell? _=some (.pointer (some ⟨cb,0,none⟩)):=h2.cell 0;have zc:=Y.cell;have F:=HH.out.2.2.2;have Nw:=K1.trans K2;clear E1 HH m0 m1 aS K1 K2
 obtain⟨gt,Z⟩:∃gt,fM (Ch.mk l) x.target=gt:=⟨_,rfl⟩
 rw[Z]
 by_cases aj:x.target=45
 ·have hn:=I.JI
  rw[<-aj,Z]at hn;subst hn;rw[aj]at F;have HR:=af (F.trans (show _= -1 from rfl));clear F Z;go_wp2;go_ret;rw[HR.out];exact⟨rfl,Nw⟩
 obtain⟨G,EG,bk,bm⟩:∃G:Nat,G<l.length/\gt=G/\Ch.place ol.ai x.target=G:=by
  rcases I.named x.target with⟨_,h2⟩|⟨i,hi,h1,h2⟩
  ·obtain⟨g',b7,_⟩:=I.kg.tgt x (aM hm.zY) aj
   omega
  exact⟨i,hi,by rw[<-Z];exact h1,h2⟩
 subst bk
 have ht:(x.target==45)=false:=by simpa using aj
 rw[ht,bm]at F;simp only[bp,bj]at F
 have b3:(G:Int)<(l.length:Int):=by omega
 obtain⟨y,hy⟩:∃y,l[G]? =some y:=⟨_,ar EG⟩
 obtain⟨g1,EE,hv,_,O,_⟩:=Y.2.1.form hy;simp only[aK]at hv;obtain⟨rfl,-,rfl⟩:=hv;have zk:_=some _:=O 1 (by omega);have am:=I.kind hy
 cases q5:y.n.kind !=5 with
 |true=>
  have HR:=af (F.trans (Il (by rw[am];exact q5)));clear F Z O h2 Y Vm;go_wp2;go_ret;rw[HR.out];exact⟨rfl,Nw⟩
 |false=>?_
 have D:=F.trans (Mr (by omega) (by rw[am];exact q5));rw[I.Aw hy]at D;have E2:=af (wF w2 B cb l _ Y (by omega));have HX:=af (ae h2 (ae Y (ae Vm (ae D Nw))));clear F Z O h2 Y Vm D Nw
 go_wp2_with fail
 refine b9 E2 ?_;rintro z w3 ⟨u,rfl,hu,K3⟩;obtain⟨ua,uc,rfl⟩:=bn hu;have aI:=Mq (by rw[eI];exact EG) (by rw[lz hy];simpa using q5);have a4:=vH I m.s;have bo:=xe (Ch.mk l);rw[eI]at bo;have a6:=hI.cd G (by rw[I.len];exact EG) (by rw[tP (by rw[I.len];exact EG),am];simpa using q5);generalize mw (Ch.mk l)=hs at*;have h3:=HX.out.1.az K3 (λx=>x);have Xl:=HX.out.2.1.au K3;have Pw:JL _ _ _ _ _:=eO.az HX.out.2.2.1 K3 (λ_ _ x=>x);unfold JL at Pw;rw[a4]at Pw;obtain⟨pa,pc,bx⟩:=Pw.len;subst bx;have HY:=af (ae hu (ae h3 (ae Xl (ae Pw (ae HX.out.2.2.2.1 (ae (HX.out.2.2.2.2.trans K3) aI))))));have be:=af a6;simp only[gx]at*;clear hu h3 Xl Pw K3 E2 aI a4 a6 HX c0 zc zk
 go_wp2_with fail
 go_loopw [7] (λkv wr=>∃e:Nat,kv= .int .i64 e/\e<=hs.length/\Hid (∀j,j<e->hs[j]? =some G->bN m.s G=45)/\Kp (λ_=>False) w3 wr) (λkv _=>hs.length-(intOf kv).toNat)
 case atStart=>exact⟨0,rfl,aG _,af (λj h=>absurd h (by omega)),Kp.refl _ _⟩
 case round=>
  obtain⟨e,rfl,he,HB,KW⟩:=hrel;have hr:=HY.out.2.1.az KW (λx=>x);have fW:=HY.out.2.2.1.au KW;have ad:=KW.owns HY.out.1 (λ_ _ x=>x);have aa:=HY.out.2.2.2.1.az KW (λ_ _ x=>x);have KF:=HY.out.2.2.2.2.2.1.trans KW;have c0:wr.cell? _=some (.pointer (some ⟨cb,0,none⟩)):=hr.cell 0;have c2:wr.cell? _=some (.slice pa hs.length pc):=hr.cell 2;have zc:=fW.cell
  by_cases bt:e<hs.length
  ·have b4:(e:Int)<(hs.length:Int):=by omega
   obtain⟨J,Px⟩:∃J,hs[e]? =some J:=⟨_,ar bt⟩
   obtain⟨g2,b1,a9,_⟩:=cR ad (by omega);simp only[aK]at a9;obtain⟨rfl,-,rfl⟩:=a9
   have zh:wr.cell? ⟨g2,e,none⟩=some (.int .i64 J):=by
    rw[bP ad e (by omega)];simp[bI,jx,Px]
   obtain⟨g3,yy,ba,_⟩:=aa.form (by omega);simp only[aK]at ba;obtain⟨rfl,-,rfl⟩:=ba
   have zp:wr.cell? ⟨g3,e,none⟩=some (.int .u8 (bN m.s J)):=by
    rw[aa.cellAt e (by omega)];simp[aD,Px]
   have Ig:=af (λ(hh:J=G->bN m.s G=45)=>show∀j,j<e+1->hs[j]? =some G->bN m.s G=45 from λj hj' hs'=>by
    rcases nY (lI hj')with h'|h'
    ·exact HB.out j h' hs'
    subst h';rw[Px]at hs';exact hh (by simpa using hs'))
   have D7:=af (ae KW KF)
   by_cases a1:J=G
   ·subst a1
    cases qp:bN m.s J !=45 with
    |false=>
     have HN:=af (Ig.out (λ_=>by simpa using qp));clear hr fW ad aa KW KF Ig HB Px;go_wp2
     go_roundw
     case rel=>exact⟨e+1,by go_num,by omega,af HN.out,D7.out.1⟩
     case measure=>simp[intOf];omega
    |true=>?_
    have a3:(bN m.s J==45)=false:=by simpa using qp
    have D:=HY.out.2.2.2.2.1;rw[a3]at D;simp only[bp,bj]at D
    have a5:fM (Ch.mk l) (bN m.s J)=Ch.place ol.ai (bN m.s J):=by
     have hp:=be.out;unfold ur at hp;rw[a3]at hp;simp only[bp,bj]at hp
     rcases I.named (bN m.s J)with⟨_,h2⟩|⟨i,_,h1,h2⟩
     ·rw[h2]at hp;cases hp
     rw[h1,h2]
    have HN:=af (D.trans a5.symm);have E:=af (λnn=>uH (wr.drewN nn) B cb l _ (bN m.s J) (fW.au ((Kp.refl _ _).drewN nn)) (by omega));clear hr fW ad aa KW KF Ig HB Px D a5
    go_upto_region 9 with(fail)
    go_quiet ((go_at_call 236;exact iZ (eE E _)))
    go_wp2;go_ret;rw[HN.out];exact⟨rfl,D7.out.2.drewN _⟩
   have b5:((J:Int)==(G:Int))=false:=by simp;omega
   have HN:=af (Ig.out (λh=>absurd h a1));clear hr fW ad aa KW KF Ig HB Px a1;go_wp2
   go_roundw
   case rel=>exact⟨e+1,by go_num,by omega,af HN.out,D7.out.1⟩
   case measure=>simp[intOf];omega
  have ca:¬(e:Int)<(hs.length:Int):=by omega
  obtain rfl:e=hs.length:=by omega
  have bi:bN m.s G=45:=by
   obtain⟨j,J⟩:=ie HY.out.2.2.2.2.2.2;exact HB.out j (aJ.1 J).1 J
  have D:=HY.out.2.2.2.2.1;rw[bi]at D;have ap:=I.kg.qM.hs G (by rw[I.len];exact EG) (.inl (by rw[am];simpa using q5));obtain⟨p,wC,XD⟩:=I.kg.qM.Aw ap.1 (by rw[I.len];exact EG)
  have bb:y.n.parent=p:=by rw[<-I.Aw hy];exact wC
  rw[bb]at D
  have X:eF ol.ai p≠[]:=by
   rw[wC]at ap;obtain⟨j,_,J⟩:=I.kg.qM.CG p (by rw[I.len];omega) (.inl ap.2);intro hz;have:=cf.2 J;rw[hz]at this;cases this
  have a0:=uI X;rw[<-pd I]at a0 X
  have a2:j6 ol m.s t=((fq (Ch.mk l) (p:Int)).headD 0:Nat):=by rw[D];simpa using a0
  obtain⟨b6,EX,a8,_,U,_⟩:=fW.2.1.form hy;simp only[aK,bq,dH,bS,dx]at a8;obtain⟨rfl,rfl⟩:=a8
  have zp:wr.cell? ⟨g1,G*7+2,none⟩=some (.int .i64 p):=by rw[<-bb];exact U 2 (by omega)
  have E:=af (nT wr.drew B cb l _ (p:Int) (fW.au (Kp.refl _ _).drew) (by omega));generalize fq (Ch.mk l) (p:Int)=ks at*;have HN:=af a2;have bc:=af X;clear hr fW ad aa D a0 a2 X U ap HB
  go_upto_region 10 with(fail)
  go_region_held3 (λw'=>w'.cell? ⟨xb,0,none⟩=some (.pointer (some ⟨cb,0,none⟩))/\w'.cell? ⟨cb,0,none⟩=some (.slice (some ⟨g1,0,none⟩) l.length cap)/\w'.cell? ⟨g1,G*7+2,none⟩=some (.int .i64 p)) (first|exact⟨c0,zc,zp⟩|exact HS.out) ((go_at_call 234;refine b9 E ?_;rintro z w5 ⟨u5,rfl,Gj,K5⟩;have H:=af (ae Gj K5);have HS:=af (ae (K5.bX c0) (ae (K5.bX zc) (K5.bX zp)));clear E Gj K5))
  obtain⟨Gj,K5⟩:=H.out;clear H HS
  cases ks with
  |nil=>exact absurd rfl bc.out
  |cons k0 kt=>?_
  obtain⟨g5,b2,b0,_⟩:=cR Gj (by simp);subst b0
  have z5:w5.cell? ⟨g5,0,none⟩=some (.int .i64 k0):=by
   rw[bP Gj 0 (by simp)];simp[bI,jx]
  have Gi:=af (KF.drew.trans K5)
  have cc:(0:Int)<((k0::kt).length:Int):=by simp
  generalize (k0::kt).length=kl at*;clear Gj K5 KF KW;go_wp2;go_ret;rw[HN.out];exact⟨rfl,Gi.out⟩
end
structure mD(w:World)(B B2 xb cb g:Nat)(pv v:Value)(l:List NV)(ol:Ol)(m:Ma):Prop where
 nb:iA w xb cb g l.length pv m
 on:∃on,kG w g on/\iN l.length on m.s.act
 ps:JL w B2 ol m.s pv
 ch:jW w B cb l v
def nS(xb g:Nat)(pv:Value)(k:Nat):Prop:=k=xb\/k=g\/pv.ownBlock=some k
section
variable {w w':World} {B B2 xb cb g:Nat} {pv v:Value} {l:List NV} {ol:Ol} {m:Ma}
theorem mD.xg(h:mD w B B2 xb cb g pv v l ol m):xb≠g:=λe=>by
 obtain⟨on,E,_⟩:=h.on;have D:=h.nb;unfold iA at D;unfold kG at E;rw[e,E]at D;simp only[bq,dI]at D;exact absurd D.2.1 (by decide)
theorem mD.px(h:mD w B B2 xb cb g pv v l ol m):pv.ownBlock≠some xb:=eO.ne h.ps h.nb (by decide)
theorem mD.pg(h:mD w B B2 xb cb g pv v l ol m):pv.ownBlock≠some g:=by
 obtain⟨on,D,_⟩:=h.on;exact eO.ne h.ps D (by decide)
theorem mD.au(h:mD w B B2 xb cb g pv v l ol m)(k:Kp (λ_=>False) w w'):mD w' B B2 xb cb g pv v l ol m:=by
 obtain⟨on,D,hs⟩:=h.on;exact⟨h.nb.az k (λx=>x),⟨on,k.at_ D (λx=>x),hs⟩,eO.az h.ps k (λ_ _ x=>x),h.ch.au k⟩
theorem mD.chart(h:mD w B B2 xb cb g pv v l ol m)(k:Kp (nS xb g pv) w w'):jW w' B cb l v:=
 h.ch.oD k (λi cur T hi _ hT e=>by
  obtain⟨on,F,_⟩:=h.on
  rcases e with e|e|e
  ·subst e
   have E:=h.nb;unfold iA at E;rw[E]at hi;simp only[bq,dI]at hi
   rcases hT with h|h|h|h<;>rw[h]at hi<;>exact absurd hi.2.1 (by decide)
  ·subst e
   unfold kG at F;rw[F]at hi;simp only[bq,dI]at hi
   rcases hT with h|h|h|h<;>rw[h]at hi<;>exact absurd hi.2.1 (by decide)
  rcases hT with D|D|D|D<;>subst D<;>exact eO.ne h.ps hi (by decide) e)
theorem mD.bD{D:Ma}(h:mD w B B2 xb cb g pv v l ol m)(k:Kp (λk=>k=xb) w w')(F:iA w' xb cb g l.length pv D)(E:kO D.s m.s):mD w' B B2 xb cb g pv v l ol D:=by
 obtain⟨on,G,hs⟩:=h.on;refine⟨F,⟨on,k.at_ G (λe=>h.xg e.symm),by rw[E.1];exact hs⟩,?_,h.chart (k.mono (λ_ _ e=>.inl e))⟩;have:JL _ _ _ _ _:=eO.az h.ps k (λj hj e=>h.px (by rw[hj,e]));unfold JL kD at this⊢
 have I:bN D.s=bN m.s:=by funext j;unfold bN;rw[E.2]
 simp_all
theorem mD.push(h:mD w B B2 xb cb g pv v l ol m)(c:Int):mD (((w.alloc (.cells #[.int .u8 c] 5)).setCell ⟨xb,7,none⟩ (.string (strOfNums m.q++strOfNums [c]))).drew) B B2 xb cb g pv v l ol {m with q:=m.q++[c]}/\Kp (λk=>k=xb) w (((w.alloc (.cells #[.int .u8 c] 5)).setCell ⟨xb,7,none⟩ (.string (strOfNums m.q++strOfNums [c]))).drew):=by
 have K:Kp (λk=>k=xb) w (((w.alloc (.cells #[.int .u8 c] 5)).setCell ⟨xb,7,none⟩ (.string (strOfNums m.q++strOfNums [c]))).drew):=(((Kp.refl _ _).alloc _).setCell (by intro _;rfl) _).drew;refine⟨h.bD K ?_ (kO.refl _),K⟩;have E:iA (w.alloc (.cells #[.int .u8 c] 5)) _ _ _ _ _ _:=h.nb.az ((Kp.refl (λ_=>False) _).alloc _) (λx=>x);have D:=E.GI (m.q++[c]);rw[jX]at D;exact D.az ((Kp.refl (λ_=>False) _).drew) (λx=>x)
end
namespace Ch
def mX(bs:List Bl)(m:Ma):Ma:=bs.foldl (λm b=>dF b.bD m) m
theorem BG(k:Nat)(sg:Int):∀(l:List Bl) (m:Ma),d_ k sg l m=mX (l.filter (oC k sg)) m:=by
 intro l
 induction l with
 |nil=>intro m;rfl
 |cons b l D=>?_
 intro m;simp only[d_];rw[D,jI];have:((b.state==(k:Int))&&(b.sign==sg))=oC k sg b:=rfl;rw[this]
 cases oC k sg b<;>rfl
theorem zq{bs:List Bl}{k:Nat}{b:Bl}(h:bs[k]? =some b)(m:Ma):mX (bs.take (k+1)) m=dF b.bD (mX (bs.take k) m):=by
 unfold mX;rw[gO,h,nM];rfl
structure pM(m:Ma)(N:Nat):Prop where
 ok:m.s.Ok
 tm:CM 48 m.s
 sz:m.Sz N
theorem pM.bD{m:Ma}{N:Nat}(h:pM m N){D:List Ac}(F:∀a∈D,uW a)(E:D.length<=240):pM (dF D m) (N+480):=
 ⟨ql D h.ok,(jg (by omega) ⟨[],[],[]⟩).bD D h.tm F,tF h.sz E⟩
theorem pM.le{m:Ma}{N M:Nat}(h:pM m N)(D:N<=M):pM m M:=⟨h.ok,h.tm,h.sz.le D⟩
theorem pM.all:∀(bs:List Bl) {m:Ma} {N:Nat},pM m N->(∀b∈bs,(∀a∈b.bD,uW a)/\b.bD.length<=240)->pM (mX bs m) (N+480*bs.length):=by
 intro bs
 induction bs with
 |nil=>intro m N h _;exact h
 |cons b l E=>?_
 intro m N h hb;have D:=h.bD (hb b (by simp)).1 (hb b (by simp)).2;have:=E D (λc hc=>hb c (by simp[hc]));exact this.le (by simp;omega)
theorem EY{s:ByteArray}{D:List Ac}(h:f_ s=enc D)(E:D.length<=240):s.size<=1000:=by
 rw[<-cF,h]
 have:∀l:List Ac,(enc l).length<=3*l.length:=by
  intro l
  induction l with
  |nil=>simp[enc]
  |cons a l F=>?_
  grind[zb,vt]
 grind
end Ch
theorem BH{l:List ByteArray}{k:Nat}{t:ByteArray}(h:l[k]? =some t):(ly l)[k]? =some (.string t):=by simp[ly,h]
section
variable (w:World) (B B2 xb cb g:Nat) (pv v:Value) (l:List NV) (ol:Ol) (m:Ma)
theorem EZ(i N:Nat)(h:mD w B B2 xb cb g pv v l ol m)(U:Rf l ol)(hM:pM m N)(hN:N<=900000000)(hi:i<l.length):
 Calls prog 240 #[.pointer (some ⟨xb,0,none⟩),.int .i64 i] w λy w'=>y= .returned (.tuple #[])/\mD w' B B2 xb cb g pv v l ol (dA ol m i)/\Kp (nS xb g pv) w w':=by
 have cv:=U.le;obtain⟨ao,cap,rfl⟩:=h.ch.2.1.len
 have dv:(i:Int)<(l.length:Int):=by omega
 obtain⟨on,a0,bx⟩:=h.on;have c1:w.cell? _=some (.slice (some ⟨g,0,none⟩) l.length l.length):=h.nb.cell 1;have Gh:=a0.cell (k:=i) (by have:=bx.1;omega);have cp:=a0.free i;have xG:=a0.set i true;have K1:Kp (λk=>k=g) w (w.setCell ⟨g,i,none⟩ (.bool true)):=(Kp.refl _ _).setCell (by intro _;rfl) _
 have a8:mD (w.setCell ⟨g,i,none⟩ (.bool true)) B B2 xb cb g pv (.slice ao l.length cap) l ol (dN m i true):=by
  refine⟨h.nb.az K1 h.xg,⟨on.set i true,xG,bx.set hi cv⟩,?_,h.chart (K1.mono (λ_ _ e=>.inr (.inl e)))⟩;exact eO.az h.ps K1 (λj hj e=>h.pg (by rw[hj,e]))
 have a7:pM (dN m i true) N:=⟨nP hM.ok _ _,hM.tm,hM.sz⟩
 have HX:=af (ae a8 (ae a7 (K1.mono (S':=nS xb g pv) (λ_ _ e=>.inr (.inl e)))));clear a8 a7 K1 xG a0 h
 go_enter func240,ntmps240
 go_upto_region 1 with(fail)
 generalize w.setCell ⟨g,i,none⟩ (.bool true)=w1 at*
 obtain⟨x,hx⟩:∃x,l[i]? =some x:=⟨_,ar hi⟩
 have Z:=HX.out.1.ch;have c0:w1.cell? _=some (.pointer (some ⟨cb,0,none⟩)):=HX.out.1.nb.cell 0;have zc:=Z.cell;obtain⟨g1,di,hv,ds,G,cs⟩:=Z.2.1.form hx;simp only[aK]at hv;obtain⟨rfl,-,rfl⟩:=hv;have a1:=aM hx;have z0:w1.cell? ⟨g1,i*7,none⟩=some _:=G 0 (by omega);have z1:_=some _:=G 1 (by omega);have z2:_=some _:=G 2 (by omega);have z3:_=some _:=G 3 (by omega);have z4:_=some _:=G 4 (by omega);have z5:_=some _:=G 5 (by omega);have z6:_=some _:=G 6 (by omega);obtain⟨ea,ec,bi⟩:=bn (Z.2.1.nR x a1);obtain⟨la,lc,bk⟩:=bn (Z.2.1.rJ x a1);obtain⟨ta,tc,Qz⟩:=bn (Z.2.1.j_ x a1);have am:=Z.2.1.nR x a1;rw[bi]at z4 am;rw[bk]at z5;rw[Qz]at z6;have K3:Kp (λ_=>False) w1 (w1.alloc (.cells #[.int .u8 x.n.name,.int .i64 x.n.kind,.int .i64 x.n.parent,.int .i64 x.n.pos,.slice ea x.n.enter.length ec,.slice la x.n.cA.length lc,.slice ta x.n.trans.length tc] 223)):=(Kp.refl _ _).alloc _;have aI:=an w1 (.cells #[.int .u8 x.n.name,.int .i64 x.n.kind,.int .i64 x.n.parent,.int .i64 x.n.pos,.slice ea x.n.enter.length ec,.slice la x.n.cA.length lc,.slice ta x.n.trans.length tc] 223);have ap:=U.nR i x hx;have b3:=af ap.len
 have bb:∀b∈ol.eR.filter (oC i 94),(∀a∈b.bD,uW a)/\b.bD.length<=240:=λb hb=>by
  obtain⟨_,_,eD⟩:=ap.right hb;exact⟨eD.ac,(U.ok.rY b (gP.1 hb).1).1⟩
 have cr:(ol.eR.filter (oC i 94)).length<=240:=bA (l8 _ _) U.ok.eR
 have XE:x.n.enter.length<=240:=by rw[ap.len];exact cr
 have be:d_ i _ ol.eR (dN m i true)=_:=BG i 94 _ _
 have I:dA ol m i=if x.n.kind==4 then gU ol.ai (mX (ol.eR.filter (oC i 94)) (dN m i true)) x.n.parent else mX (ol.eR.filter (oC i 94)) (dN m i true):=by
  unfold dA;rw[be,U.kind hx,U.Aw hx]
 have a9:=HX.out.1.au K3;have HQ:=af (ae a9 (ae HX.out.2.1 (ae (HX.out.2.2.trans' K3 (λ_ _ x=>x.elim)) (ae (K3.owns am (λ_ _ x=>x)) (ae ap (ae bb I))))));clear Z G cs am a9 ap bb be I HX c1 Gh cp
 go_upto_region 2 with(fail)
 generalize w1.alloc (.cells #[.int .u8 x.n.name,.int .i64 x.n.kind,.int .i64 x.n.parent,.int .i64 x.n.pos,.slice ea x.n.enter.length ec,.slice la x.n.cA.length lc,.slice ta x.n.trans.length tc] 223)=w2 at*;generalize w1.heap.size=nb at*;generalize ol.eR.filter (oC i 94)=fl at*;clear z0 z1 z2 z3 z4 z5 z6 zc c0 bi bk Qz K3
 have Nz:¬nS xb g pv nb:=λe=>by
  have aa:=HQ.out.1
  rcases e with e|e|e
  ·have Y:=aa.nb
   unfold iA at Y;rw[<-e,aI]at Y;simp only[bq,dI]at Y;exact absurd Y.2.1 (by decide)
  ·obtain⟨dc,O,_⟩:=aa.on
   unfold kG at O;rw[<-e,aI]at O;simp only[bq,dI]at O;exact absurd O.2.1 (by decide)
  exact eO.ne aa.ps aI (by decide) e
 go_wp2_with fail
 go_loopw [5] (λkv wr=>∃k:Nat,kv= .int .i64 k/\k<=x.n.enter.length/\Hid (mD wr B B2 xb cb g pv (.slice (some ⟨g1,0,none⟩) l.length cap) l ol (mX (fl.take k) (dN m i true)))/\Hid (pM (mX (fl.take k) (dN m i true)) (N+480*k))/\Kp (nS xb g pv) w2 wr) (λkv _=>x.n.enter.length-(intOf kv).toNat)
 case atStart=>exact⟨0,rfl,aG _,af HQ.out.1,af HQ.out.2.1,Kp.refl _ _⟩
 case round=>
  obtain⟨k,rfl,hk,E8,Gk,KW⟩:=hrel;have ad:=KW.at_ aI Nz
  have n1:wr.cell? ⟨nb,1,none⟩=some (.int .i64 x.n.kind):=by rw[World.cell?,ad];rfl
  have n2:wr.cell? ⟨nb,2,none⟩=some (.int .i64 x.n.parent):=by rw[World.cell?,ad];rfl
  have n4:wr.cell? ⟨nb,4,none⟩=some (.slice ea x.n.enter.length ec):=by rw[World.cell?,ad];rfl
  by_cases cw:k<x.n.enter.length
  ·have dj:(k:Int)<(x.n.enter.length:Int):=by omega
   obtain⟨t,ht⟩:∃t,x.n.enter[k]? =some t:=⟨_,ar cw⟩
   obtain⟨b,hb,eD⟩:=HQ.out.2.2.2.2.1.Va ht;have aS:=HQ.out.2.2.2.2.2.1 b (aM hb)
   have a3:wr.ownsRow B 9 1 (.slice ea x.n.enter.length ec) x.n.enter.length (ly x.n.enter):=KW.owns HQ.out.2.2.2.1 (λj hj e=>by
    have aa:=HQ.out.1
    obtain⟨g9,Sr,Py,ct,_,Vn,_⟩:∃g9 Sr Py,(Value.slice ea x.n.enter.length ec)= .slice (some ⟨g9,0,none⟩) x.n.enter.length Sr/\B<=g9/\w2.heap[g9]? =some (.cells Py 9 (0,0))/\True:=by
     rcases HQ.out.2.2.2.1.2 with⟨_,h0⟩|⟨g9,Sr,Py,Y,h2,h3,_⟩
     ·omega
     exact⟨g9,Sr,Py,Y,h2,h3,trivial⟩
    have cu:j=g9:=by rw[ct]at hj;simpa[Value.ownBlock]using hj.symm
    subst cu
    rcases e with e|e|e
    ·have Y:=aa.nb
     unfold iA at Y;rw[<-e,Vn]at Y;simp only[bq,dI]at Y;exact absurd Y.2.1 (by decide)
    ·obtain⟨dc,O,_⟩:=aa.on
     unfold kG at O;rw[<-e,Vn]at O;simp only[bq,dI]at O;exact absurd O.2.1 (by decide)
    exact eO.ne aa.ps Vn (by decide) e)
   obtain⟨g3,yy,b1,_⟩:=cR a3 (by omega);simp only[aK]at b1;obtain⟨rfl,-,rfl⟩:=b1;have zt:=(bP a3 k (by omega)).trans (BH ht);have E:=af (wO wr xb cb g l.length pv _ b.bD t E8.out.nb eD.Qy aS.1 Gk.out.ok Gk.out.tm ⟨by have:=Gk.out.sz.1;omega,by have:=Gk.out.sz.2;omega⟩ (by omega) (EY eD.Qy aS.2));have Dk:=af (zq hb (dN m i true));have b2:=af (qB b.bD (mX (fl.take k) (dN m i true)));have Mt:=af (Gk.out.bD aS.1 aS.2);clear a3 ad
   go_wp2_with fail
   refine hm E ?_;rintro z w5 ⟨rfl,N5,K5⟩;have X5:=af (E8.out.bD K5 N5 b2.out);have Nx:=KW.trans' K5 (λ_ _ e=>.inl e);clear E N5 K5 n1 n2 n4 zt;go_wp2
   go_roundw
   case rel=>exact⟨k+1,by go_num,by omega,af (by rw[Dk.out];exact X5.out),af (by rw[Dk.out];exact Mt.out.le (by omega)),Nx⟩
   case measure=>simp[intOf];omega
  have dt:¬(k:Int)<(x.n.enter.length:Int):=by omega
  obtain rfl:k=x.n.enter.length:=by omega
  have Dl:=E8.out;have Zs:=Gk.out;have I:=HQ.out.2.2.2.2.2.2;rw[b3.out,fD]at Dl Zs;have KF:=HQ.out.2.2.1.trans KW;generalize mX fl (dN m i true)=ma at*
  cases q4:x.n.kind !=4 with
  |true=>
   have Zt:(x.n.kind==4)=false:=by simpa using q4
   rw[Zt]at I;have J:=af (ae (I.trans rfl) (ae Dl KF));clear Dl Zs I KF ad E8 Gk;go_wp2;refine bg (k9 rfl _ _ _) rfl ?_;rw[J.out.1];exact⟨rfl,J.out.2.1,J.out.2.2⟩
  |false=>?_
  have e4:x.n.kind=4:=by simpa using q4
  rw[e4]at I;replace I:=I.trans rfl;have da:=U.kg.qM.hs i (by rw[U.len];exact hi) (.inr (by rw[U.kind hx];exact e4));obtain⟨p,wC,XD⟩:=U.kg.qM.Aw da.1 (by rw[U.len];exact hi);rw[U.Aw hx]at wC
  have bo:p<l.length:=by omega
  have dk:(p:Int)<(l.length:Int):=by omega
  obtain⟨y,hy⟩:∃y,l[p]? =some y:=⟨_,ar bo⟩
  have a4:=aM hy;rw[wC]at I n2;rw[e4]at n1;have fW:=Dl.ch;have c0:wr.cell? _=some (.pointer (some ⟨cb,0,none⟩)):=Dl.nb.cell 0;have zc:=fW.cell;obtain⟨a6,EX,X,_,D,_⟩:=fW.2.1.form hy;simp only[aK,bq,dH,bS,dx]at X;obtain⟨rfl,rfl⟩:=X;have y0:wr.cell? ⟨g1,p*7,none⟩=some _:=D 0 (by omega);have y1:_=some _:=D 1 (by omega);have y2:_=some _:=D 2 (by omega);have y3:_=some _:=D 3 (by omega);have y4:_=some _:=D 4 (by omega);have y5:_=some _:=D 5 (by omega);have y6:_=some _:=D 6 (by omega);obtain⟨Zu,Zv,cm⟩:=bn (fW.2.1.nR y a4);obtain⟨Zw,Zx,bm⟩:=bn (fW.2.1.rJ y a4);obtain⟨Zy,Zz,RL⟩:=bn (fW.2.1.j_ y a4);rw[cm]at y4;rw[bm]at y5;rw[RL]at y6;have K3:Kp (λ_=>False) wr (wr.alloc (.cells #[.int .u8 y.n.name,.int .i64 y.n.kind,.int .i64 y.n.parent,.int .i64 y.n.pos,.slice Zu y.n.enter.length Zv,.slice Zw y.n.cA.length Zx,.slice Zy y.n.trans.length Zz] 223)):=(Kp.refl _ _).alloc _;have ba:=an wr (.cells #[.int .u8 y.n.name,.int .i64 y.n.kind,.int .i64 y.n.parent,.int .i64 y.n.pos,.slice Zu y.n.enter.length Zv,.slice Zw y.n.cA.length Zx,.slice Zy y.n.trans.length Zz] 223);have TY:=Dl.au K3;have a5:Kp (nS xb g pv) w _:=KF.trans' K3 (λ_ _ x=>x.elim);have HZ:=af (ae TY (ae Zs (ae I a5)));clear Dl Zs I KF ad E8 Gk fW D TY a5 K3
  go_upto_region 7 with(fail)
  have b4:=λo=>((Kp.refl (λ_=>False) wr).alloc o).bX n2
  have XF:=λo=>((Kp.refl (λ_=>False) wr).alloc o).bX c0
  have XG:=λo=>((Kp.refl (λ_=>False) wr).alloc o).bX zc
  have b5:=λo=>((Kp.refl (λ_=>False) wr).alloc o).bX y0
  have b6:=λo=>((Kp.refl (λ_=>False) wr).alloc o).bX y1
  have b7:=λo=>((Kp.refl (λ_=>False) wr).alloc o).bX y2
  have ca:=λo=>((Kp.refl (λ_=>False) wr).alloc o).bX y3
  have cc:=λo=>((Kp.refl (λ_=>False) wr).alloc o).bX y4
  have ce:=λo=>((Kp.refl (λ_=>False) wr).alloc o).bX y5
  have cg:=λo=>((Kp.refl (λ_=>False) wr).alloc o).bX y6
  go_region
  have QG:=af (ae (HZ.out.1.au (Kp.refl _ _).drew) (ae HZ.out.2.1 (ae HZ.out.2.2.1 HZ.out.2.2.2.drew)));have aO:(wr.alloc (.cells #[.int .u8 y.n.name,.int .i64 y.n.kind,.int .i64 y.n.parent,.int .i64 y.n.pos,.slice Zu y.n.enter.length Zv,.slice Zw y.n.cA.length Zx,.slice Zy y.n.trans.length Zz] 223)).drew.heap[wr.heap.size]? =_:=ba;clear b4 XF XG b5 b6 b7 ca cc ce cg n1 n2 n4 y0 y1 y2 y3 y4 y5 y6 c0 zc ba HZ
  go_upto_region 8 with(fail)
  generalize (wr.alloc (.cells #[.int .u8 y.n.name,.int .i64 y.n.kind,.int .i64 y.n.parent,.int .i64 y.n.pos,.slice Zu y.n.enter.length Zv,.slice Zw y.n.cA.length Zx,.slice Zy y.n.trans.length Zz] 223)).drew=w4 at*;generalize wr.heap.size=pb at*;have br:=QG.out.2.1.sz.1
  have p0:w4.cell? ⟨pb,0,none⟩=some (.int .u8 y.n.name):=by rw[World.cell?,aO];rfl
  have c7:w4.cell? _=some (.string (strOfNums ma.q)):=QG.out.1.nb.cell 7;have f7:=QG.out.1.nb.free 7
  have ci:=λo=>((Kp.refl (λ_=>False) w4).alloc o).bX p0
  have XH:=λo=>((Kp.refl (λ_=>False) w4).alloc o).bX c7
  have XI:=λo=>iA.free (QG.out.1.nb.az ((Kp.refl (λ_=>False) w4).alloc o) (λx=>x)) 7
  have bc:=ld (P:=prog) ((w4.alloc (.cells #[.int .u8 y.n.name] 5)).drew) 47 5 underlying47 underlying5 w4.heap.size 0 1 1 [y.n.name] rfl (by
   intro i hi
   match i,hi with
   |0,_=>simp) 9 underlying9
  have a2:=λw'=>lf (P:=prog) w' (strOfNums ma.q) (strOfNums [y.n.name]) (by rw[cC,cC];simp;omega)
  go_region
  obtain⟨Mu,K5⟩:=QG.out.1.push y.n.name
  have cV:¬pb=xb:=λe=>by
   have Y:=QG.out.1.nb;unfold iA at Y;rw[<-e,aO]at Y;simp only[bq,dI]at Y;exact absurd Y.2.1 (by decide)
  have aj:=K5.at_ aO cV;have Wo:=QG.out.2.2.2.trans' K5 (λ_ _ e=>.inl e);have F:=QG.out.2.2.1;have b0:=QG.out.2.1
  have ck:gD ol.ai p=y.n.name:=by rw[<-U.ai];unfold Ch.ai;rw[tQ (by rw[eI];exact bo),lz hy]
  unfold gU at F;rw[show((p:Int)== -1)=false by simp,U.Aw hy,db,ck]at F;simp only[bp,bj]at F;clear bc a2 ci XH XI p0 c7 f7 aO QG br;generalize ((w4.alloc (.cells #[.int .u8 y.n.name] 5)).setCell ⟨xb,7,none⟩ (.string (strOfNums ma.q++strOfNums [y.n.name]))).drew=w5 at*
  have d2:w5.cell? ⟨pb,2,none⟩=some (.int .i64 y.n.parent):=by rw[World.cell?,aj];rfl
  have c0:w5.cell? _=some (.pointer (some ⟨cb,0,none⟩)):=Mu.nb.cell 0;have zc:=Mu.ch.cell;have c9:=U.up p ⟨y.n.name,y.n.pos,y.n.kind,y.n.parent⟩ (by unfold Ch.ai Ch.mk;rw[bw,bw,hy];rfl);simp only at c9
  by_cases dw:y.n.parent<0
  ·have c8:y.n.parent= -1:=by omega
   rw[c8]at F;have J:=af (ae (F.trans rfl) (ae Mu Wo));clear F Mu Wo aj K5
   go_upto_region 9 with(fail)
   go_quiet (fail)
   go_wp2;refine bg (k9 rfl _ _ _) rfl ?_;rw[J.out.1];exact⟨rfl,J.out.2.1.au ((Kp.refl _ _).drewN _),J.out.2.2.drewN _⟩
  obtain⟨q,hq⟩:∃q:Nat,y.n.parent=q:=⟨y.n.parent.toNat,by omega⟩
  rw[hq]at F d2
  have Rg:q<l.length:=by omega
  have dl:(q:Int)<(l.length:Int):=by omega
  obtain⟨z,hz⟩:∃z,l[q]? =some z:=⟨_,ar Rg⟩
  have fW:=Mu.ch;obtain⟨a6,EX,X,_,D,_⟩:=fW.2.1.form hz;simp only[aK,bq,dH,bS,dx]at X;obtain⟨rfl,rfl⟩:=X;have v0:w5.cell? ⟨g1,q*7,none⟩=some _:=D 0 (by omega);have v1:_=some _:=D 1 (by omega);rw[U.kind hz]at F
  have cn:gD ol.ai q=z.n.name:=by rw[<-U.ai];unfold Ch.ai;rw[tQ (by rw[eI];exact Rg),lz hz]
  rw[db,cn]at F
  cases q3:z.n.kind !=3 with
  |true=>
   have dg:(z.n.kind==3)=false:=by simpa using q3
   rw[dg]at F;have J:=af (ae (F.trans rfl) (ae Mu Wo));clear F Mu Wo aj K5 fW D
   go_upto_region 9 with(fail)
   go_quiet (fail)
   go_wp2;refine bg (k9 rfl _ _ _) rfl ?_;rw[J.out.1];exact⟨rfl,J.out.2.1.au ((Kp.refl _ _).drewN _),J.out.2.2.drewN _⟩
  |false=>?_
  have e3:z.n.kind=3:=by simpa using q3
  rw[e3]at F v1;have HY:=af (ae Mu (ae Wo (ae aj F)));clear F Mu Wo aj K5 fW D c0 zc;have c0:w5.cell? _=some (.pointer (some ⟨cb,0,none⟩)):=HY.out.1.nb.cell 0;have zc:=HY.out.1.ch.cell
  go_upto_region 9 with(fail)
  go_quiet (fail)
  have TZ:=HY.out.1.au ((Kp.refl (λ_=>False) w5).drewN nq);have XJ:=HY.out.2.1.drewN nq;have Pz:(w5.drewN nq).heap[pb]? =_:=HY.out.2.2.1;have F:=HY.out.2.2.2;clear HY c0 zc v0 v1 d2;generalize w5.drewN nq=w6 at*;obtain⟨dd,Aq,bt⟩:=TZ.on;have E:=af (Mn B xb cb g pv {ma with q:=ma.q++[y.n.name]} l (.slice (some ⟨g1,0,none⟩) l.length cap) ol dd bt U l.length w6 q (by omega) Rg TZ.nb Aq TZ.ch)
  have d2:w6.cell? ⟨pb,2,none⟩=some (.int .i64 q):=by rw[World.cell?,Pz,<-hq];rfl
  have HY:=af (ae TZ (ae XJ (ae Pz F)));clear TZ XJ Pz F Aq bt
  go_wp2_with fail
  refine hm E ?_;rintro u w7 ⟨rfl,K7⟩;have QH:=HY.out.1.au K7;have ZA:=HY.out.2.1.trans' K7 (λ_ _ x=>x.elim);have xR:=K7.at_ HY.out.2.2.1 (λx=>x);have F:=HY.out.2.2.2;clear E HY d2 K7
  cases qe:Ch.atEnd ol.ai ma.s.act q with
  |false=>
   rw[qe]at F;have J:=af (ae (F.trans rfl) (ae QH ZA));clear F QH ZA xR;go_wp2
   go_end0
   rw[J.out.1];exact⟨rfl,J.out.2.1,J.out.2.2⟩
  |true=>?_
  rw[qe]at F;have J:=af (ae (F.trans rfl) (ae QH ZA))
  have d2:w7.cell? ⟨pb,2,none⟩=some (.int .i64 q):=by rw[World.cell?,xR,<-hq];rfl
  have c0:w7.cell? _=some (.pointer (some ⟨cb,0,none⟩)):=QH.nb.cell 0;have zc:=QH.ch.cell;have c7:w7.cell? _=some (.string (strOfNums (ma.q++[y.n.name]))):=QH.nb.cell 7;have f7:=QH.nb.free 7;obtain⟨a6,EX,X,_,D,_⟩:=QH.ch.2.1.form hz;simp only[aK,bq,dH,bS,dx]at X;obtain⟨rfl,rfl⟩:=X;have v0:w7.cell? ⟨g1,q*7,none⟩=some _:=D 0 (by omega);have br:=b0.sz.1
  have dn:=λo=>((Kp.refl (λ_=>False) w7).alloc o).bX d2
  have XF:=λo=>((Kp.refl (λ_=>False) w7).alloc o).bX c0
  have XG:=λo=>((Kp.refl (λ_=>False) w7).alloc o).bX zc
  have XH:=λo=>((Kp.refl (λ_=>False) w7).alloc o).bX c7
  have dq:=λo=>((Kp.refl (λ_=>False) w7).alloc o).bX v0
  have XI:=λo=>iA.free (QH.nb.az ((Kp.refl (λ_=>False) w7).alloc o) (λx=>x)) 7
  have bc:=ld (P:=prog) ((w7.alloc (.cells #[.int .u8 z.n.name] 5)).drew) 47 5 underlying47 underlying5 w7.heap.size 0 1 1 [z.n.name] rfl (by
   intro i hi
   match i,hi with
   |0,_=>simp) 9 underlying9
  have a2:=λw'=>lf (P:=prog) w' (strOfNums (ma.q++[y.n.name])) (strOfNums [z.n.name]) (by rw[cC,cC];simp;omega)
  clear F QH ZA xR D
  go_upto_region 12 with(fail)
  go_region
  go_wp2
  go_end0
  rw[J.out.1];obtain⟨cq,K8⟩:=J.out.2.1.push z.n.name;refine⟨rfl,?_,J.out.2.2.trans' K8 (λ_ _ e=>.inl e)⟩;exact cq
end
namespace Ch
theorem E9(ol:Ol):∀(a b:List Nat) (m:Ma),oH ol (a++b) m=oH ol b (oH ol a m):=by
 intro a
 induction a with
 |nil=>intro b m;rfl
 |cons x a D=>intro b m;exact D b _
theorem Mv(ol:Ol){l:List Nat}{k j:Nat}(h:l[k]? =some j)(m:Ma):oH ol (l.take (k+1)) m=if bit (oH ol (l.take k) m).s.act j then oH ol (l.take k) m else dA ol (oH ol (l.take k) m) j:=by
 rw[gO,h,E9];rfl
theorem pM.enter{ol:Ol}(D:ol.Ok)(E:uZ ol){m:Ma}{N:Nat}(h:pM m N)(i:Nat):pM (dA ol m i) (N+115202):=
 ⟨uy h.ok i,(jg (by omega) ol).dA E h.tm i,uz D h.sz i⟩
end Ch
section
variable (w:World) (B B2 xb cb g:Nat) (pv v:Value) (l:List NV) (ol:Ol) (m:Ma)
theorem uh(N B3:Nat)(goals:List Int)(gv:Value)(h:mD w B B2 xb cb g pv v l ol m)(D:Rf l ol)(hM:pM m N)(hN:N<=890000000)(ao:goals.length<=16)(ap:∀x∈goals,x<l.length)(hg:w.ownsRow B3 3 1 gv goals.length (bI goals)):
 Calls prog 202 #[.pointer (some ⟨xb,0,none⟩),gv] w λy w'=>y= .returned (.tuple #[])/\mD w' B B2 xb cb g pv v l ol (oH ol (dM ol.ai (Ch.bit m.s.act) goals ol.ai.length 0) m)/\Kp (nS xb g pv) w w':=by
 have a8:=D.le;have aa:=D.kg.qM.ne;rw[D.len]at aa;obtain⟨on,ad,aj⟩:=h.on;have E0:=af (Pt B xb cb g pv m l v ol on aj D goals gv B3 ao ap l.length w 0 (by omega) aa h.nb ad h.ch hg);obtain⟨_,_,I,_,_⟩:=oG D.kg.qM (Ch.bit m.s.act) goals ol.ai.length 0 D.kg.qM.ne (by omega);have a5:=bA (EV D.kg.qM (Ch.bit m.s.act) goals D.kg.qM.ne) D.kg.le
 have EU:∀j∈dM ol.ai (Ch.bit m.s.act) goals ol.ai.length 0,j<l.length:=λj hj=>by rw[<-D.len];exact(I j hj).1
 generalize dM ol.ai (Ch.bit m.s.act) goals ol.ai.length 0=F at*;have HL:=af EU;have HX:=af (ae h hM);clear h hg ad aj I EU hM
 go_enter func202,ntmps202
 go_wp2_with fail
 refine hm E0 ?_;rintro z w2 ⟨u,rfl,hu,K2⟩;obtain⟨ua,uc,rfl⟩:=bn hu;have G:=HX.out.1.au K2
 have a1:∀k,(Value.slice ua F.length uc).ownBlock=some k->¬nS xb g pv k:=λk hk e=>by
  obtain⟨a9,a0,_⟩:=G.on
  rcases e with e|e|e
  ·exact aZ hu G.nb (by decide) (by rw[hk,e])
  ·exact aZ hu a0 (by decide) (by rw[hk,e])
  rcases hu.2 with⟨h0,_⟩|⟨g9,c9,Py,h1,_,h3,_⟩
  ·rw[h0]at hk;simp[Value.ownBlock]at hk
  rw[h1]at hk
  have aO:k=g9:=by simpa[Value.ownBlock]using hk.symm
  subst aO;exact eO.ne G.ps h3 (by decide) e
 have HU:=af (ae hu (ae K2 (ae G HX.out.2)));clear hu K2 E0 G HX
 go_wp2_with fail
 go_loopw [5] (λkv wr=>∃k:Nat,kv= .int .i64 k/\k<=F.length/\Hid (mD wr B B2 xb cb g pv v l ol (oH ol (F.take k) m))/\Hid (pM (oH ol (F.take k) m) (N+115202*k))/\Kp (nS xb g pv) w2 wr) (λkv _=>F.length-(intOf kv).toNat)
 case atStart=>exact⟨0,rfl,aG _,af HU.out.2.2.1,af HU.out.2.2.2,Kp.refl _ _⟩
 case round=>
  obtain⟨k,rfl,hk,U,Gk,Y⟩:=hrel
  by_cases aS:k<F.length
  ·have a6:(k:Int)<(F.length:Int):=by omega
   obtain⟨j,hj⟩:∃j,F[k]? =some j:=⟨_,ar aS⟩
   have aI:=HL.out j (aM hj)
   have Sq:(j:Int)<(l.length:Int):=by omega
   have O:=Y.owns HU.out.1 a1;obtain⟨g2,a4,am,_⟩:=cR O (by omega);simp only[aK]at am;obtain⟨rfl,-,rfl⟩:=am
   have zk:wr.cell? ⟨g2,k,none⟩=some (.int .i64 j):=by
    rw[bP O k (by omega)];simp[bI,jx,hj]
   obtain⟨a2,kh,Vo⟩:=U.out.on;have c1:wr.cell? _=some (.slice (some ⟨g,0,none⟩) l.length l.length):=U.out.nb.cell 1;have Gh:=kh.cell (k:=j) (by have:=Vo.1;omega);have J:=Mv ol hj m;have Z:=Vo.2.2 j;have E:=af (λnn=>EZ (wr.drewN nn) B B2 xb cb g pv v l ol (oH ol (F.take k) m) j (N+115202*k) (U.out.au ((Kp.refl _ _).drewN nn)) D Gk.out (by omega) aI);have Mt:=af (Gk.out.enter D.ok D.z_ j);generalize oH ol (F.take k) m=mk at*;rw[<-Z]at J;generalize qA a2 j=oj at*;have Dk:=af J;have D7:=af Y;clear O kh Vo J Z Y
   cases oj with
   |true=>
    have X:=af (Dk.out.trans (aq rfl));clear Dk
    go_wp2_with fail
    go_quiet (fail)
    go_wp2
    go_roundw
    case rel=>exact⟨k+1,by go_num,by omega,af (by rw[X.out];exact U.out.au ((Kp.refl _ _).drewN _)),af (by rw[X.out];exact Gk.out.le (by omega)),D7.out.drewN _⟩
    case measure=>simp[intOf];omega
   |false=>?_
   have X:=af (Dk.out.trans (ay (by simp)));clear Dk
   go_wp2_with fail
   go_quiet (fail)
   have a3:(wr.drewN nq).cell? _=_:=zk
   go_wp2_with fail
   refine bu (eE E _) ?_;rintro z w5 ⟨rfl,X5,K5⟩;have Vp:=af (ae X5 ((D7.out.drewN nq).trans K5));clear E X5 K5 zk a3 c1 Gh;go_wp2
   go_roundw
   case rel=>exact⟨k+1,by go_num,by omega,af (by rw[X.out];exact Vp.out.1),af (by rw[X.out];exact Mt.out.le (by omega)),Vp.out.2⟩
   case measure=>simp[intOf];omega
  have a7:¬(k:Int)<(F.length:Int):=by omega
  obtain rfl:k=F.length:=by omega
  have Dl:=U.out;rw[fD]at Dl;have HN:=af (ae Dl ((HU.out.2.1.mono (S':=nS xb g pv) (λ_ _ x=>x.elim)).trans Y));clear Dl Y U Gk;go_wp2
  go_end0
  exact⟨rfl,HN.out.1,HN.out.2⟩
