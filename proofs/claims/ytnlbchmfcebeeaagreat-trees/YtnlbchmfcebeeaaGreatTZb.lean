import Derived.Test.YtnlbchmfcebeeaaGreatTZa
set_option maxHeartbeats 12800000
set_option maxRecDepth 100000
namespace Go.Proofs.YtnlbchmfcebeeaaGreat
open Go.Proofs.Tryz Ch
open Go.RowKit
section
variable (B xb cb g:Nat) (pv:Value) (m:Ma) (l:List NV) (v:Value) (ol:Ol)
theorem TW(on:List Bool)(hso:fJ l.length on m.s.act)(hR:Rf l ol):∀(N:Nat) (w:World) (i:Nat),l.length<=i+N->i<l.length->fy w xb cb g l.length pv m->iH w g on->iG w B cb l v->
 Calls prog 264 #[.pointer (some ⟨xb,0,none⟩),.int .i64 i] w λy w'=>y= .returned (.bool (Ch.atEnd ol.ag m.s.act i))/\Kp (λ_=>False) w w':=by
 intro N
 induction N with
 |zero=>intro w i h1 h2;omega
 |succ N ih=>
 intro w i hN hi h hon hF;have hle:=hR.le;have hst:=OE hR.iP.qg m.s.act i;rw[Kj,<-oL hR]at hst;have hkl:=jB (Ch.mk l) (i:Int)
 have yE:=λj (h:j∈cE (Ch.mk l) (i:Int))=>(show i<j/\j<l.length from by
  rw[oL hR]at h;have:=oY hR.iP.qg (bJ.1 h)
  rw[hR.len]at this;exact this)
 rw[cP]at hkl;have E0:=hid (iE w B cb l v (i:Int) hF (by omega));generalize cE (Ch.mk l) (i:Int)=ks at*;obtain⟨ao,cap,rfl⟩:=hF.2.1.len
 obtain⟨y,hy⟩:∃y,l[i]? =some y:=⟨_,List.getElem?_eq_getElem hi⟩
 rw[hR.kind hy]at hst
 have hi':(i:Int)<(l.length:Int):=by omega
 have HL:=hid yE;have HST:=hid hst;have Y0:=hid ih;have HH:=hid (ae h (ae hF hon));clear h hF hon yE hst ih;have c0':w.cell? ⟨xb,0,none⟩=some (.pointer (some ⟨cb,0,none⟩)):=HH.out.1.cell 0
 go_enter func264,ntmps264
 go_wp2_with fail
 refine hm E0 ?_;rintro z w2 ⟨u,rfl,hu,K2⟩;obtain⟨ua,uc,rfl⟩:=aF hu;have HU:=hid (ae hu (ae K2 (ae (HH.out.1.keep K2 (λx=>x):fy w2 xb cb g l.length pv m) (ae (HH.out.2.1.ai K2) (K2.at_ HH.out.2.2 (λx=>x):iH w2 g on)))));clear hu K2 E0 HH c0'
 go_wp2_with fail
 go_loopw [6,7,8] (λfv av kv wr=>∃k:Nat,kv= .int .i64 k/\k<=ks.length/\fv= .bool ((ks.take k).any λj=>aA ol.ag j==4&&Ch.bit m.s.act j)/\av= .bool (if y.n.kind==3 then(ks.take k).all (λj=>Ch.atEnd ol.ag m.s.act j)else true)/\Kp (λ_=>False) w2 wr) (λ_ _ kv _=>ks.length-(intOf kv).toNat)
 case atStart=>exact⟨0,rfl,Nat.zero_le _,rfl,by cases y.n.kind==3<;>rfl,Kp.refl _ _⟩
 case round=>
  obtain⟨k,rfl,hk,rfl,rfl,KW⟩:=hrel;have hr:fy wr xb cb g l.length pv m:=HU.out.2.2.1.keep KW (λx=>x);have ey:=HU.out.2.2.2.1.ai KW;have iI:iH wr g on:=KW.at_ HU.out.2.2.2.2 (λx=>x);have hur:=KW.owns HU.out.1 (λ_ _ x=>x);have c0:wr.cell? ⟨xb,0,none⟩=some (.pointer (some ⟨cb,0,none⟩)):=hr.cell 0;have c1:wr.cell? ⟨xb,1,none⟩=some (.slice (some ⟨g,0,none⟩) l.length l.length):=hr.cell 1;have zc:=ey.cell;obtain⟨g1,Hm,hv,_,hcell,_⟩:=ey.2.1.form hy;simp only[Value.slice.injEq]at hv;obtain⟨rfl,-,rfl⟩:=hv;have zi:wr.cell? ⟨g1,i*7+1,none⟩=some (.int .i64 y.n.kind):=hcell 1 (by omega)
  by_cases hlt:k<ks.length
  ·have hlt':(k:Int)<(ks.length:Int):=by omega
   obtain⟨j,hj⟩:∃j,ks[k]? =some j:=⟨_,List.getElem?_eq_getElem hlt⟩
   have hjl:=HL.out j (List.mem_of_getElem? hj)
   have AK:(j:Int)<(l.length:Int):=by omega
   obtain⟨yj,hyj⟩:∃yj,l[j]? =some yj:=⟨_,List.getElem?_eq_getElem hjl.2⟩
   obtain⟨g3,xk,hv3,_,lA,_⟩:=ey.2.1.form hyj;simp only[Value.slice.injEq,Option.some.injEq,Addr.mk.injEq,true_and,and_true]at hv3;obtain⟨rfl,rfl⟩:=hv3;have zj:wr.cell? ⟨g1,j*7+1,none⟩=some (.int .i64 yj.n.kind):=lA 1 (by omega);obtain⟨g2,cap2,hv2,_⟩:=World.ownsRow.form hur (by omega);simp only[Value.slice.injEq]at hv2;obtain⟨rfl,-,rfl⟩:=hv2
   have zk:wr.cell? ⟨g2,k,none⟩=some (.int .i64 j):=by
    rw[World.ownsRow.cellAt hur k (by omega)];simp[aJ,im,hj]
   have DE:=iI.cell (k:=j) (by have:=hso.1;omega);have hF1:=any_take_succ (p:=λj=>aA ol.ag j==4&&Ch.bit m.s.act j) hj
   have hA1:(ks.take (k+1)).all (λj=>Ch.atEnd ol.ag m.s.act j)=((ks.take k).all (λj=>Ch.atEnd ol.ag m.s.act j)&&Ch.atEnd ol.ag m.s.act j):=by
    rw[List.take_add_one,hj,List.all_append];simp
   simp only[hR.kind hyj,<-hso.2.2 j]at hF1;have E:=hid (λnn=>Y0.out (wr.drewN nn) j (by omega) hjl.2 (hr.keep ((Kp.refl (λ_=>False) _).drewN nn) (λx=>x)) (((Kp.refl (λ_=>False) _).drewN nn).at_ iI (λx=>x)) (ey.ai ((Kp.refl _ _).drewN nn)));have HF1:=hid hF1;have HA1:=hid hA1;have Dc:=hid KW;generalize (ks.take k).any (λj=>aA ol.ag j==4&&Ch.bit m.s.act j)=fb at*;generalize (ks.take k).all (λj=>Ch.atEnd ol.ag m.s.act j)=ab at*;generalize Ch.atEnd ol.ag m.s.act j=ej at*;generalize eJ on j=oj at*;clear hr ey iI hur KW hcell lA hF1 hA1
   cases q3:y.n.kind==3 with
   |false=>
    cases q4:yj.n.kind==4<;>cases oj<;>rw[q4]at HF1<;>
    (go_upto_region 7 with(fail)
     go_quiet (fail)
     go_wp2
     go_roundw
     case rel=>exact⟨k+1,by go_num,by omega,by rw[HF1.out];cases fb<;>rfl,by rfl,Dc.out.drewN _⟩
     case measure=>simp[intOf];omega)
   |true=>?_
   cases q4:yj.n.kind==4<;>cases oj<;>rw[q4]at HF1<;>
   (go_upto_region 7 with(fail)
    go_quiet (fail)
    go_wp2_with fail
    refine Calls.mono (Hid.out E _) ?_;rintro z w5 ⟨rfl,K5⟩;have rL:=hid ((Dc.out.drewN nq).trans K5);clear K5
    cases ab<;>cases ej<;>
    (go_wp2
     go_roundw
     case rel=>exact⟨k+1,by go_num,by omega,by rw[HF1.out];cases fb<;>rfl,by simp[HA1.out],rL.out⟩
     case measure=>simp[intOf];omega))
  have hge:¬(k:Int)<(ks.length:Int):=by omega
  obtain rfl:k=ks.length:=by omega
  rw[List.take_length];have hs2:=HST.out;have Dc:=hid (HU.out.2.1.trans KW);clear hr ey iI hur KW hcell
  cases q2:y.n.kind==2 with
  |true=>
   have e2:y.n.kind=2:=by simpa using q2
   rw[q2]at hs2;have HN:=hid (hs2.trans (if_pos rfl));rw[e2]at zi;clear hs2;rw[e2];go_wp2;go_ret;rw[HN.out];exact⟨rfl,Dc.out⟩
  |false=>?_
  rw[q2]at hs2
  cases q3:y.n.kind==3 with
  |true=>
   have e3:y.n.kind=3:=by simpa using q3
   rw[q3]at hs2;have HN:=hid (hs2.trans rfl);rw[e3]at zi;clear hs2;go_wp2;go_ret;rw[HN.out];exact⟨by simp,Dc.out⟩
  |false=>?_
  rw[q3]at hs2;have HN:=hid (hs2.trans rfl);clear hs2;go_wp2;go_ret;rw[HN.out];exact⟨by simp,Dc.out⟩
end
namespace Ch
theorem ON:∀(l:List Nat) (a b:Nat),l.Pairwise (· < ·)->(∀x∈l,a<=x/\x<b)->l.length<=b-a:=by
 intro l
 induction l with
 |nil=>intro a b _ _;simp
 |cons x l ih=>?_
 intro a b hp hm;rw[List.pairwise_cons]at hp;have hx:=hm x (by simp);have:=ih (x+1) b hp.2 (λy hy=>⟨hp.1 y hy,(hm y (by simp[hy])).2⟩);simp;omega
theorem Ks{ss:List St}(h:sH ss)(S:Nat->Bool)(goals:List Int){i:Nat}(hi:i<ss.length):(cY ss S goals ss.length i).length<=ss.length:=by
 obtain⟨_,_,h3,_,h5⟩:=nM h S goals ss.length i hi (by omega);have:=ON _ 0 ss.length h5 (λx hx=>⟨Nat.zero_le _,(h3 x hx).1⟩);omega
theorem Ct(p:Nat->Bool)(c:Nat){l:List Nat}{k j:Nat}(h:l[k]? =some j):iN p c (l.take (k+1))=if p j then j else iN p c (l.take k):=by
 unfold iN;rw[List.take_add_one,h,List.foldl_append];rfl
theorem Fy(p:Nat->Bool){c:Nat}{l:List Nat}(hc:c∈l)(k:Nat):iN p c (l.take k)∈l:=by
 rcases jm p (l.take k) c with⟨e,_⟩|⟨e,_⟩
 ·rw[e];exact hc
 exact List.mem_of_mem_take e
def zO(ss:List St)(k:Nat)(g:Int):Bool:=decide (0<=g)&&(g==(k:Int)||au ss k g)
theorem Xs(ss:List St)(goals:List Int)(k:Nat):mn ss goals k=goals.any (zO ss k):=rfl
end Ch
section
variable (B xb cb g:Nat) (pv:Value) (m:Ma) (l:List NV) (v:Value) (ol:Ol)
theorem Xt(on:List Bool)(hso:fJ l.length on m.s.act)(hR:Rf l ol)(goals:List Int)(gv:Value)(B3:Nat)(hgl:goals.length<=16)(hgo:∀x∈goals,x<l.length):∀(N:Nat) (w:World) (i:Nat),l.length<=i+N->i<l.length->fy w xb cb g l.length pv m->iH w g on->iG w B cb l v->w.ownsRow B3 3 1 gv goals.length (aJ goals)->
 Calls prog 239 #[.pointer (some ⟨xb,0,none⟩),.int .i64 i,gv] w λy w'=>∃u,y= .returned u/\w'.ownsRow w.heap.size 3 1 u (cY ol.ag (Ch.bit m.s.act) goals ol.ag.length i).length (aJ (im (cY ol.ag (Ch.bit m.s.act) goals ol.ag.length i)))/\Kp (λ_=>False) w w':=by
 obtain⟨i0,hi0,hz0,hz1,hz2⟩:=info_parts lI;intro N
 induction N with
 |zero=>intro w i h1 h2;omega
 |succ N ih=>
 intro w i hN hi h hon hF hg;have hle:=hR.le
 have hil:i<ol.ag.length:=by rw[hR.len];exact hi
 have hst:=yF hR.iP.qg (Ch.bit m.s.act) goals hil;have hlen:=Nat.le_trans (Ks hR.iP.qg (Ch.bit m.s.act) goals hil) hR.iP.le;have hkl:=jB (Ch.mk l) (i:Int)
 have yE:=λj (h:j∈cE (Ch.mk l) (i:Int))=>(show i<j/\j<l.length from by
  rw[oL hR]at h;have:=oY hR.iP.qg (bJ.1 h)
  rw[hR.len]at this;exact this)
 have hne:aA ol.ag i=2->cE (Ch.mk l) (i:Int)≠[]:=λhk=>by
  obtain⟨j,_,hj⟩:=hR.iP.qg.kid i hil (.inl hk);rw[oL hR];intro hz;have:=bJ.2 hj;rw[hz]at this;cases this
 unfold mB at hst;rw[<-oL hR]at hst;rw[cP]at hkl;obtain⟨ao,cap,rfl⟩:=hF.2.1.len
 obtain⟨y,hy⟩:∃y,l[i]? =some y:=⟨_,List.getElem?_eq_getElem hi⟩
 rw[hR.kind hy]at hst hne
 have hi':(i:Int)<(l.length:Int):=by omega
 have hb1:=heap_alloc_new w (.cells #[.int .i64 i] 3);have K1:Kp (λ_=>False) w (w.alloc (.cells #[.int .i64 i] 3)):=(Kp.refl _ _).alloc _
 have ho1:(w.alloc (.cells #[.int .i64 i] 3)).ownsRow w.heap.size 3 1 (.slice (some ⟨w.heap.size,0,none⟩) 1 1) 1 (aJ (im [i])):=⟨rfl,.inr ⟨w.heap.size,1,_,rfl,Nat.le_refl _,hb1,Nat.le_refl _,by unfold maxLen;omega,rfl,rfl⟩⟩
 have hF1:=hF.ai K1;have hxo:xb≠w.heap.size:=Nat.ne_of_lt (lt_of_block h);have hgw:g≠w.heap.size:=Nat.ne_of_lt (lt_of_block hon)
 have ajY:∀k,gv.ownBlock=some k->k≠w.heap.size:=λk hk=>Nat.ne_of_lt (hg.lt k hk).2
 have hs1:(w.alloc (.cells #[.int .i64 i] 3)).heap.size=w.heap.size+1:=by simp only[World.alloc,Array.size_push]
 have E0:=hid (iE _ B cb l _ (i:Int) hF1 (by omega));generalize cE (Ch.mk l) (i:Int)=ks at*;have HL:=hid yE;have HST:=hid (ae hst (ae hlen hne));have Y0:=hid ih;have HH:=hid (ae (h.keep K1 (λx=>x):fy _ xb cb g l.length pv m) (ae hF1 (ae (K1.at_ hon (λx=>x):iH _ g on) (ae (K1.owns hg (λ_ _ x=>x)) ho1))));clear h hF hon yE hst ih hlen hne hF1 hg ho1
 go_enter func239,ntmps239
 go_upto_region 2 with(fail)
 generalize w.alloc (.cells #[.int .i64 i] 3)=w1 at*;generalize AJ:w.heap.size=ob at*;have c0:w1.cell? ⟨xb,0,none⟩=some (.pointer (some ⟨cb,0,none⟩)):=HH.out.1.cell 0
 go_wp2_with fail
 refine bH E0 ?_;rintro z w2 ⟨u,rfl,hu,K2⟩;obtain⟨ua,uc,rfl⟩:=aF hu;have HU:=hid (ae hu (ae (K1.trans K2) (ae (HH.out.1.keep K2 (λx=>x):fy w2 xb cb g l.length pv m) (ae (HH.out.2.1.ai K2) (ae (K2.at_ HH.out.2.2.1 (λx=>x):iH w2 g on) (ae (K2.owns HH.out.2.2.2.1 (λ_ _ x=>x)) (K2.owns HH.out.2.2.2.2 (λ_ _ x=>x))))))))
 have huo:∀k,(Value.slice ua ks.length uc).ownBlock=some k->k≠ob:=λk hk=>by have:=(hu.lt k hk).1;omega
 have ZH:=K2.at_ hb1 (λx=>x);obtain⟨ga,gc,hgv⟩:=aF HU.out.2.2.2.2.2.1;subst hgv;have hsz2:=HU.out.2.1.size;clear hu K2 K1 E0 HH c0
 have Vf:=hid (λ(W:World) (KW:Kp (λk=>k=ob) w2 W)=>show fy W xb cb g l.length pv m/\iH W g on/\iG W B cb l (.slice ao l.length cap)/\W.ownsRow B3 3 1 (.slice ga goals.length gc) goals.length (aJ goals)/\W.ownsRow w1.heap.size 3 1 (.slice ua ks.length uc) ks.length (aJ (im ks))from
  ⟨HU.out.2.2.1.keep KW hxo,KW.at_ HU.out.2.2.2.2.1 hgw,HU.out.2.2.2.1.A4 KW (λi cur T hi _ hT e=>by
   subst e;rw[ZH]at hi;simp only[Option.some.injEq,Obj.cells.injEq]at hi
   rcases hT with h|h|h|h<;>rw[h]at hi<;>exact absurd hi.2.1 (by decide)),KW.owns HU.out.2.2.2.2.2.1 ajY,KW.owns HU.out.1 huo⟩)
 have hF2:=HU.out.2.2.2.1;have c0:w2.cell? ⟨xb,0,none⟩=some (.pointer (some ⟨cb,0,none⟩)):=HU.out.2.2.1.cell 0;have zc:=hF2.cell;obtain⟨g1,Hm,hv,_,hcell,_⟩:=hF2.2.1.form hy;simp only[Value.slice.injEq]at hv;obtain⟨rfl,-,rfl⟩:=hv;have zi:w2.cell? ⟨g1,i*7+1,none⟩=some (.int .i64 y.n.kind):=hcell 1 (by omega);clear hF2 hcell
 cases q2:y.n.kind==2 with
 |true=>
  have e2:y.n.kind=2:=by simpa using q2
  have q3:(y.n.kind==3)=false:=by rw[e2];rfl
  have hst:=HST.out.1;rw[q2]at hst;simp only[if_true]at hst
  obtain⟨k0,kt,hks⟩:∃k0 kt,ks=k0::kt:=by
   have:=HST.out.2.2 e2
   cases ks with
   |nil=>exact absurd rfl this
   |cons a b=>exact⟨a,b,rfl⟩
  have hk0:ks.headD 0=k0:=by rw[hks];rfl
  have ajZ:k0∈ks:=by rw[hks];simp
  have hpos:0<ks.length:=by rw[hks];simp
  have hpos':(0:Int)<(ks.length:Int):=by omega
  rw[hk0]at hst;obtain⟨g2,cap2,hv2,_⟩:=World.ownsRow.form HU.out.1 (by omega);simp only[Value.slice.injEq]at hv2;obtain⟨rfl,-,rfl⟩:=hv2
  have z0:w2.cell? ⟨g2,0,none⟩=some (.int .i64 k0):=by
   rw[World.ownsRow.cellAt HU.out.1 0 (by omega),hks];rfl
  have HS:=hid hst;clear hst hks hk0
  go_wp2_with fail
  go_loopw [9,10] (λcv kv wr=>∃k:Nat,kv= .int .i64 k/\k<=ks.length/\cv= .int .i64 (iN (mn ol.ag goals) k0 (ks.take k):Nat)/\Kp (λ_=>False) w2 wr) (λ_ kv _=>ks.length-(intOf kv).toNat)
  case atStart=>exact⟨0,rfl,Nat.zero_le _,rfl,Kp.refl _ _⟩
  case round=>
   obtain⟨k,rfl,hk,rfl,KW⟩:=hrel
   by_cases hlt:k<ks.length
   ·have hlt':(k:Int)<(ks.length:Int):=by omega
    obtain⟨kk,hkk⟩:∃kk,ks[k]? =some kk:=⟨_,List.getElem?_eq_getElem hlt⟩
    have aj0:=HL.out kk (List.mem_of_getElem? hkk);have HLS:=hid (Ct (mn ol.ag goals) k0 hkk);generalize iN (mn ol.ag goals) k0 (ks.take k)=ck at*
    go_wp2_with fail
    go_loopw [9,11] (λcv jv wq=>∃j:Nat,jv= .int .i64 j/\j<=goals.length/\cv= .int .i64 ((if(goals.take j).any (zO ol.ag kk)then kk else ck:Nat):Int)/\Kp (λ_=>False) w2 wq) (λ_ jv _=>goals.length-(intOf jv).toNat)
    case atStart=>exact⟨0,rfl,Nat.zero_le _,rfl,KW⟩
    case round=>
     obtain⟨j,rfl,hj,rfl,KQ⟩:=hrel;have KQ':Kp (λk=>k=ob) w2 wr:=KQ.mono (λ_ _ x=>x.elim);obtain⟨hr,iI,ey,hgr,hur⟩:=Vf.out wr KQ';have c0:wr.cell? ⟨xb,0,none⟩=some (.pointer (some ⟨cb,0,none⟩)):=hr.cell 0
     have zk:wr.cell? ⟨g2,k,none⟩=some (.int .i64 kk):=by
      rw[World.ownsRow.cellAt hur k (by omega)];simp[aJ,im,hkk]
     by_cases hjl:j<goals.length
     ·have AK:(j:Int)<(goals.length:Int):=by omega
      obtain⟨gj,hgj⟩:∃gj,goals[j]? =some gj:=⟨_,List.getElem?_eq_getElem hjl⟩
      have ape:=hgo gj (List.mem_of_getElem? hgj);obtain⟨g3,xk,hv3,_⟩:=World.ownsRow.form hgr (by omega);simp only[Value.slice.injEq]at hv3;obtain⟨rfl,-,rfl⟩:=hv3
      have zg:wr.cell? ⟨g3,j,none⟩=some (.int .i64 gj):=by
       rw[World.ownsRow.cellAt hgr j (by omega)];simp[aJ,hgj]
      have hsn:(goals.take (j+1)).any (zO ol.ag kk)=((goals.take j).any (zO ol.ag kk)||zO ol.ag kk gj):=by
       rw[List.take_add_one,hgj,List.any_append];simp
      generalize (goals.take j).any (zO ol.ag kk)=aj at*
      by_cases hg0:0<=gj
      ·obtain⟨gn,rfl⟩:∃gn:Nat,gj=gn:=⟨gj.toNat,by omega⟩
       have E:=hid (λnn=>nV (wr.drewN nn) B cb l _ kk gn (ey.ai ((Kp.refl _ _).drewN nn)) (by omega) hR.up (by omega))
       have hh:zO ol.ag kk gn=((gn:Int)==(kk:Int)||au (Ch.ag l) kk gn):=by unfold zO;rw[decide_eq_true hg0,Bool.true_and,hR.ag]
       rw[hh]at hsn;generalize au (Ch.ag l) kk gn=ab at*;clear hr iI ey hgr hur hh
       cases qe:(gn:Int)==(kk:Int)with
       |true=>
        have HN:=hid (show(goals.take (j+1)).any (zO ol.ag kk)=true by rw[hsn,qe];simp);clear hsn
        go_upto_region 11 with(fail)
        go_quiet ((go_at_call 243;exact Calls.quiet_of_same (Hid.out E _)))
        go_wp2
        go_roundw
        case rel=>exact⟨j+1,by go_num,by omega,by rw[HN.out];rfl,KQ.drewN _⟩
        case measure=>simp[intOf];omega
       |false=>?_
       have HN:=hid (show(goals.take (j+1)).any (zO ol.ag kk)=(aj||ab)by rw[hsn,qe];simp);clear hsn
       cases ab<;>
       (go_upto_region 11 with(fail)
        go_quiet ((go_at_call 243;exact Calls.quiet_of_same (Hid.out E _)))
        go_wp2
        go_roundw
        case rel=>exact⟨j+1,by go_num,by omega,by rw[HN.out];cases aj<;>rfl,KQ.drewN _⟩
        case measure=>simp[intOf];omega)
      have hg1:gj<0:=by omega
      have HN:=hid (show(goals.take (j+1)).any (zO ol.ag kk)=aj by rw[hsn];unfold zO;rw[decide_eq_false hg0];simp);clear hr iI ey hgr hur hsn
      go_upto_region 11 with(fail)
      go_quiet (fail)
      go_wp2
      go_roundw
      case rel=>exact⟨j+1,by go_num,by omega,by rw[HN.out],KQ.drewN _⟩
      case measure=>simp[intOf];omega
     have hge:¬(j:Int)<(goals.length:Int):=by omega
     obtain rfl:j=goals.length:=by omega
     rw[List.take_length];have HN:=hid HLS.out;clear hr iI ey hgr hur;go_wp2
     go_roundw
     case rel=>exact⟨k+1,by go_num,by omega,by rw[HN.out,Xs],KQ⟩
     case measure=>simp[intOf];omega
   have hge:¬(k:Int)<(ks.length:Int):=by omega
   obtain rfl:k=ks.length:=by omega
   rw[List.take_length]
   have hc1:iN (mn ol.ag goals) k0 ks∈ks:=by have:=Fy (mn ol.ag goals) ajZ ks.length;rwa[List.take_length]at this
   generalize iN (mn ol.ag goals) k0 ks=c1 at*
   go_wp2_with fail
   go_loopw [9,12] (λcv kv wr=>∃k:Nat,kv= .int .i64 k/\k<=ks.length/\cv= .int .i64 (iN (Ch.bit m.s.act) c1 (ks.take k):Nat)/\Kp (λ_=>False) w2 wr) (λ_ kv _=>ks.length-(intOf kv).toNat)
   case atStart=>exact⟨0,rfl,Nat.zero_le _,rfl,KW⟩
   case round=>
    obtain⟨k,rfl,hk,rfl,KQ⟩:=hrel;have KQ':Kp (λk=>k=ob) w2 wr:=KQ.mono (λ_ _ x=>x.elim);obtain⟨hr,iI,ey,hgr,hur⟩:=Vf.out wr KQ'
    by_cases hlt:k<ks.length
    ·have hlt':(k:Int)<(ks.length:Int):=by omega
     obtain⟨kk,hkk⟩:∃kk,ks[k]? =some kk:=⟨_,List.getElem?_eq_getElem hlt⟩
     have aj0:=HL.out kk (List.mem_of_getElem? hkk)
     have apf:(kk:Int)<(l.length:Int):=by omega
     have c1c:wr.cell? ⟨xb,1,none⟩=some (.slice (some ⟨g,0,none⟩) l.length l.length):=hr.cell 1
     have zk:wr.cell? ⟨g2,k,none⟩=some (.int .i64 kk):=by
      rw[World.ownsRow.cellAt hur k (by omega)];simp[aJ,im,hkk]
     have DE:=iI.cell (k:=kk) (by have:=hso.1;omega);have hls:=Ct (Ch.bit m.s.act) c1 hkk;rw[<-hso.2.2 kk]at hls;have HLS:=hid hls;generalize iN (Ch.bit m.s.act) c1 (ks.take k)=ck at*;generalize eJ on kk=ok at*;clear hr iI ey hgr hur hls
     cases ok<;>
     (go_upto_region 16 with(fail)
      go_quiet (fail)
      go_wp2
      go_roundw
      case rel=>exact⟨k+1,by go_num,by omega,by rw[HLS.out];rfl,KQ.drewN _⟩
      case measure=>simp[intOf];omega)
    have hge:¬(k:Int)<(ks.length:Int):=by omega
    obtain rfl:k=ks.length:=by omega
    rw[List.take_length];have hst:=HS.out
    have hc2:iN (Ch.bit m.s.act) c1 ks∈ks:=by have:=Fy (Ch.bit m.s.act) hc1 ks.length;rwa[List.take_length]at this
    generalize iN (Ch.bit m.s.act) c1 ks=c2 at*;have age:=HL.out c2 hc2;have E:=hid (Y0.out wr c2 (by omega) age.2 hr iI ey hgr);have hlen:=HST.out.2.1;rw[hst]at hlen;simp only[List.length_cons]at hlen
    have hne:0<(cY ol.ag (Ch.bit m.s.act) goals ol.ag.length c2).length:=by
     rw[yF hR.iP.qg _ _ (by rw[hR.len];exact age.2)];simp
    generalize cY ol.ag (Ch.bit m.s.act) goals ol.ag.length c2=nj at*;have HN:=hid hst;have ho:=KQ.owns HU.out.2.2.2.2.2.2 (λ_ _ x=>x);have HX:=hid (ae ho KQ');clear hr iI ey hgr hur hst ho
    go_wp2_with fail
    refine bH E ?_;rintro z w5 ⟨u5,rfl,G8,K5⟩;obtain⟨g5,cap5,hv5,_⟩:=World.ownsRow.form G8 hne;subst hv5;have sr:=K5.owns HX.out.1 (λ_ _ x=>x);have Vj:Kp (λk=>k=ob) w2 w5:=HX.out.2.trans' K5 (λ_ _ x=>x.elim);have hsz5:=Vj.size;have aj2:ob<w2.heap.size:=lt_of_block ZH
    have hcells:∀e u,(aJ (im nj))[e]? =some u->w5.cell? ((⟨g5,0,none⟩:Addr).add e)=some u:=by
     intro e u he;have hlt:=(List.getElem?_eq_some_iff.1 he).1
     have hlt2:e<nj.length:=by simpa[aJ,im]using hlt
     have:=World.ownsRow.cellAt G8 e (by omega);rw[he]at this
     by_cases c:e=0
     ·subst c;simpa[Addr.add]using this
     simpa[Addr.add,c]using this
    go_wp2_with (at_builtin;refine jJ (P:=prog) rfl (.tmp 110) (.tmp 111) 38 rfl ob 3 i0 (.int .i64 0) 1 8 underlying38 hi0 hz0 hz1 hz2 rfl (by decide) (.slice (some ⟨ob,0,none⟩) 1 1) 1 (aJ (im [i])) rfl (by exact sr) ⟨g5,0,none⟩ nj.length cap5 (aJ (im nj)) rfl (by simp[aJ,im]) hcells (by intro u hu;simp[aJ,im]at hu;obtain⟨_,_,rfl⟩:=hu;rfl) hne (by unfold maxLen;omega) (by omega) (by omega) ?_)
    intro g9 c9 w9 o9 Xu wh9;have K9:Kp (λk=>k=ob) w2 w9:=Vj.grown (by exact Xu) (λe he hlt=>by simpa[Value.ownBlock]using he.symm);obtain⟨IB,_,hF9,_,_⟩:=Vf.out w9 K9;have c09:w9.cell? ⟨xb,0,none⟩=some (.pointer (some ⟨cb,0,none⟩)):=IB.cell 0;have zc9:=hF9.cell;obtain⟨g1',Ku,hv',_,hcell',_⟩:=hF9.2.1.form hy;simp only[Value.slice.injEq,Option.some.injEq,Addr.mk.injEq,true_and,and_true]at hv';obtain⟨rfl,rfl⟩:=hv';have zi9:w9.cell? ⟨g1,i*7+1,none⟩=some (.int .i64 y.n.kind):=hcell' 1 (by omega);have TX:=hid (ae o9 (HU.out.2.1.trans' K9 (λi hi e=>by omega)));clear o9 Xu K9 sr Vj G8 K5 hcells wh9 IB hF9 hcell';go_wp2;go_ret;rw[HN.out];refine⟨_,rfl,?_,TX.out.2⟩;have:=TX.out.1;simp[aJ,im]at this⊢;rw[show nj.length+1=1+nj.length by omega]
    first|exact this|(rw[AJ];exact this)
 |false=>?_
 cases q3:y.n.kind==3 with
 |true=>
  have e3:y.n.kind=3:=by simpa using q3
  have hst:=HST.out.1;rw[q2,q3]at hst;simp only[Bool.false_eq_true,if_false,if_true]at hst;have hlen:=HST.out.2.1;rw[hst]at hlen;simp only[List.length_cons]at hlen
  have hpre:∀k,(i::(ks.take k).flatMap (cY ol.ag (Ch.bit m.s.act) goals ol.ag.length)).length<=16:=λk=>by
   have hsub:((ks.take k).flatMap (cY ol.ag (Ch.bit m.s.act) goals ol.ag.length)).length<=(ks.flatMap (cY ol.ag (Ch.bit m.s.act) goals ol.ag.length)).length:=by
    rw[<-List.take_append_drop k ks,List.flatMap_append,List.length_append,List.take_append_drop];omega
   simp only[List.length_cons];omega
  have HS:=hid hst;have HP:=hid hpre;clear hst hlen hpre
  go_wp2_with fail
  go_loopw [7,14] (λov kv wr=>∃k:Nat,kv= .int .i64 k/\k<=ks.length/\wr.ownsRow ob 3 1 ov (i::(ks.take k).flatMap (cY ol.ag (Ch.bit m.s.act) goals ol.ag.length)).length (aJ (im (i::(ks.take k).flatMap (cY ol.ag (Ch.bit m.s.act) goals ol.ag.length))))/\Hid (∀e,ov.ownBlock=some e->e=ob\/w2.heap.size<=e)/\Kp (λk=>k=ob) w2 wr) (λ_ kv _=>ks.length-(intOf kv).toNat)
  case atStart=>exact⟨0,rfl,Nat.zero_le _,HU.out.2.2.2.2.2.2,hid (λe he=>.inl (by simpa[Value.ownBlock]using he.symm)),Kp.refl _ _⟩
  case round=>
   obtain⟨k,rfl,hk,ho,HWH,KW⟩:=hrel
   by_cases hlt:k<ks.length
   ·have hlt':(k:Int)<(ks.length:Int):=by omega
    obtain⟨hr,iI,ey,hgr,hur⟩:=Vf.out wr KW
    obtain⟨j,hj⟩:∃j,ks[k]? =some j:=⟨_,List.getElem?_eq_getElem hlt⟩
    have hjl:=HL.out j (List.mem_of_getElem? hj);obtain⟨g2,cap2,hv2,_⟩:=World.ownsRow.form hur (by omega);simp only[Value.slice.injEq]at hv2;obtain⟨rfl,-,rfl⟩:=hv2
    have zk:wr.cell? ⟨g2,k,none⟩=some (.int .i64 j):=by
     rw[World.ownsRow.cellAt hur k (by omega)];simp[aJ,im,hj]
    have E:=hid (Y0.out wr j (by omega) hjl.2 hr iI ey hgr)
    have hsn:(ks.take (k+1)).flatMap (cY ol.ag (Ch.bit m.s.act) goals ol.ag.length)=(ks.take k).flatMap (cY ol.ag (Ch.bit m.s.act) goals ol.ag.length)++cY ol.ag (Ch.bit m.s.act) goals ol.ag.length j:=by
     rw[List.take_add_one,hj,List.flatMap_append];simp
    have hp1:=HP.out (k+1)
    have hne:0<(cY ol.ag (Ch.bit m.s.act) goals ol.ag.length j).length:=by
     rw[yF hR.iP.qg _ _ (by rw[hR.len];exact hjl.2)];simp
    rw[hsn]at hp1;simp only[List.length_cons,List.length_append]at hp1;generalize cY ol.ag (Ch.bit m.s.act) goals ol.ag.length j=nj at*;generalize (ks.take k).flatMap (cY ol.ag (Ch.bit m.s.act) goals ol.ag.length)=fk at*;have IC:=hid hsn;have HX:=hid (ae ho KW);obtain⟨oa,oc,hov⟩:=aF ho;subst hov;clear hr iI ey hgr hur hsn ho KW
    go_wp2_with fail
    refine bH E ?_;rintro z w5 ⟨u5,rfl,G8,K5⟩;obtain⟨g5,cap5,hv5,_⟩:=World.ownsRow.form G8 hne;subst hv5;have sr:=K5.owns HX.out.1 (λ_ _ x=>x);have Vj:Kp (λk=>k=ob) w2 w5:=HX.out.2.trans' K5 (λ_ _ x=>x.elim);have hsz5:=Vj.size;have aj2:ob<w2.heap.size:=lt_of_block ZH
    have hcells:∀e u,(aJ (im nj))[e]? =some u->w5.cell? ((⟨g5,0,none⟩:Addr).add e)=some u:=by
     intro e u he;have hlt:=(List.getElem?_eq_some_iff.1 he).1
     have hlt2:e<nj.length:=by simpa[aJ,im]using hlt
     have:=World.ownsRow.cellAt G8 e (by omega);rw[he]at this
     by_cases c:e=0
     ·subst c;simpa[Addr.add]using this
     simpa[Addr.add,c]using this
    go_wp2_with (at_builtin;refine jJ (P:=prog) rfl (.tmp 138) (.tmp 139) 38 rfl ob 3 i0 (.int .i64 0) 1 8 underlying38 hi0 hz0 hz1 hz2 rfl (by decide) (.slice oa (i::fk).length oc) (i::fk).length (aJ (im (i::fk))) rfl (by exact sr) ⟨g5,0,none⟩ nj.length cap5 (aJ (im nj)) rfl (by simp[aJ,im]) hcells (by intro u hu;simp[aJ,im]at hu;obtain⟨_,_,rfl⟩:=hu;rfl) hne (by unfold maxLen;simp only[List.length_cons];omega) (by simp only[List.length_cons];omega) (by omega) ?_)
    intro g9 c9 w9 o9 Xu wh9
    have K9:Kp (λk=>k=ob) w2 w9:=Vj.grown (by exact Xu) (λe he hlt=>by
     rcases HWH.out e (by simpa[Value.ownBlock]using he)with h|h
     ·exact h
     omega)
    have TX:=hid (ae o9 (ae K9 (show∀e,(Value.slice (some ⟨g9,0,none⟩) ((i::fk).length+nj.length) c9).ownBlock=some e->e=ob\/w2.heap.size<=e from λe he=>by
     have heq:g9=e:=by simpa[Value.ownBlock]using he
     subst heq
     rcases wh9 with h|h
     ·exact HWH.out _ (by simpa[Value.ownBlock]using h)
     exact .inr (by omega))))
    clear o9 Xu K9 sr Vj G8 K5 hcells wh9;go_wp2
    go_roundw
    case rel=>
     refine⟨k+1,by go_num,by omega,?_,hid (by first|exact TX.out.2.2|(have:=TX.out.2.2;simpa using this)),TX.out.2.1⟩;rw[IC.out];have:=TX.out.1;simp[aJ,im]at this⊢;rw[show fk.length+nj.length+1=fk.length+1+nj.length by omega];exact this
    case measure=>simp[intOf];omega
   have hge:¬(k:Int)<(ks.length:Int):=by omega
   obtain rfl:k=ks.length:=by omega
   rw[List.take_length]at ho;have HX:=hid (ae ho (HU.out.2.1.trans' KW (λi hi e=>by omega)));clear ho KW;go_wp2;go_ret;rw[HS.out];exact⟨_,rfl,by first|exact HX.out.1|(rw[AJ];exact HX.out.1),HX.out.2⟩
 |false=>?_
 have hst:=HST.out.1;rw[q2,q3]at hst;have HS:=hid (hst.trans (show _=[i]from rfl));clear hst;go_wp2;go_ret;rw[HS.out];exact⟨_,rfl,by rw[AJ];exact HU.out.2.2.2.2.2.2,HU.out.2.1⟩
end
namespace Ch
theorem Xv(j:Nat):∀(l:List Tr) (n t:Nat) (x:Tr),l[t]? =some x->oV j x=true->∃k:Nat,(DF j l n)[k]? =some (n+t):=by
 intro l
 induction l with
 |nil=>intro n t x h;simp at h
 |cons a l ih=>?_
 intro n t x h hx;simp only[DF]
 cases t with
 |zero=>simp at h;subst h;rw[hx];exact⟨0,by simp⟩
 |succ t=>?_
 obtain⟨k,hk⟩:=ih (n+1) t x (by simpa using h) hx;rw[show n+1+t=n+(t+1)by omega]at hk
 cases oV j a with
 |true=>exact⟨k+1,by simpa using hk⟩
 |false=>exact⟨k,by simpa using hk⟩
theorem TY{ol:Ol}(hO:Ah ol){t:Nat}(ht:t<ol.bG.length):∃a:Nat,eG ol t=a/\V5 ol t a (GM ol t):=by
 have h1:ol.bG[t]? =some ol.bG[t]:=List.getElem?_eq_getElem ht;obtain⟨a,ha,_⟩:=hO.src _ (List.getElem_mem ht);obtain⟨k,hk⟩:=Xv a ol.bG 0 t _ h1 (by unfold oV;rw[ha];simp);rw[Nat.zero_add]at hk;have hm:=abI hk;refine⟨a,hm.st,?_⟩;rw[hm.rk];exact hm
end Ch
theorem Rf.mv{l:List NV}{ol:Ol}(h:Rf l ol){t:Nat}(ht:t<ol.bG.length):∃(a:Nat) (nd:NV) (rt:RT) (x:Tr),eG ol t=a/\a<l.length/\MvR l ol t a (GM ol t) nd rt x:=by
 obtain⟨a,ha,hm⟩:=TY h.iP ht;obtain⟨nd,rt,x,h1,h2,h3,h4,h5,h6⟩:=h.move hm;exact⟨a,nd,rt,x,ha,(List.getElem?_eq_some_iff.1 h1).1,⟨h1,h2,h3,h4,h5,h6⟩⟩
section
variable (w:World) (B xb cb g:Nat) (pv:Value) (m:Ma) (l:List NV) (v:Value) (ol:Ol)
theorem oM(trg:Int)(on:List Bool)(h:fy w xb cb g l.length pv m)(hon:iH w g on)(hso:fJ l.length on m.s.act)(hI:Ch.Inv ol m.s)(hF:iG w B cb l v)(hR:Rf l ol):
 Calls prog 205 #[.pointer (some ⟨xb,0,none⟩),.int .u8 trg] w λy w'=>∃u,y= .returned u/\w'.ownsRow w.heap.size 301 2 u (Ch.choose ol m.s trg).length (eS ol (Ch.choose ol m.s trg))/\Kp (λ_=>False) w w':=by
 obtain⟨i0,hi0,hz0,hz1,hz2⟩:=info_parts Xr;obtain⟨d,hd,eY⟩:=Cr;have E0:=hid (OM w B xb cb g pv m l v ol trg on h hon hso hI hF hR);have hfin:=Ad ol m.s trg;have hfl:(Ch.find ol m.s trg).length<=16:=Nat.le_trans hfin.2 hR.iP.le;have hch:Ch.choose ol m.s trg=dP ol m.s (Ch.find ol m.s trg) []:=rfl;obtain⟨ao,cap,rfl⟩:=hF.2.1.len;have hle:=hR.le;rw[hch];generalize Ch.find ol m.s trg=QQ at*;have HFI:=hid hfin.1;have HH:=hid (ae h (ae hF hon));clear h hF hon hfin hch
 go_enter func205,ntmps205
 go_wp2_with fail
 refine bH E0 ?_;rintro y w2 ⟨u,rfl,hu,K2⟩;obtain⟨ua,uc,rfl⟩:=aF hu;have HU:=hid (ae hu (ae K2 (ae (HH.out.1.keep K2 (λx=>x):fy w2 xb cb g l.length pv m) (ae (HH.out.2.1.ai K2) (K2.at_ HH.out.2.2 (λx=>x):iH w2 g on)))));have hsz2:=K2.size;clear hu K2 E0 HH
 go_wp2_with fail
 go_loopw [5,7] (λlv kv wr=>∃(k:Nat) (acc:List Int),kv= .int .i64 k/\k<=QQ.length/\acc.length<=k/\Hid (InT ol acc)/\wr.ownsRow w.heap.size 301 2 lv acc.length (eS ol acc)/\Hid (dP ol m.s QQ []=dP ol m.s (QQ.drop k) acc)/\Kp (λ_=>False) w2 wr) (λ_ kv _=>QQ.length-(intOf kv).toNat)
 case atStart=>exact⟨0,[],rfl,Nat.zero_le _,Nat.le_refl _,hid (by intro n hn;cases hn),World.ownsRow_nil _ _ _ _,hid rfl,Kp.refl _ _⟩
 case round=>
  obtain⟨k,acc,rfl,hk,hal,HIN,ho,HC,KW⟩:=hrel
  by_cases hlt:k<QQ.length
  ·have hlt':(k:Int)<(QQ.length:Int):=by omega
   have hur:=KW.owns HU.out.1 (λ_ _ x=>x)
   obtain⟨ti,hti⟩:∃ti,QQ[k]? =some ti:=⟨_,List.getElem?_eq_getElem hlt⟩
   have agf:=HFI.out ti (List.mem_of_getElem? hti)
   obtain⟨t,rfl⟩:∃t:Nat,ti=t:=⟨ti.toNat,by omega⟩
   have htl:t<ol.bG.length:=by omega
   obtain⟨a,nd,rt,x,hsa,aaA,hmr⟩:=hR.mv htl;obtain⟨g2,cap2,hv2,_⟩:=World.ownsRow.form hur (by omega);simp only[Value.slice.injEq]at hv2;obtain⟨rfl,-,rfl⟩:=hv2;obtain⟨q0,q1⟩:=lB ol QQ k t hti;rw[Int.toNat_natCast]at q0 q1;rw[hsa]at q0;have z0:=(World.ownsRow.cellAt hur (k*2) (by omega)).trans q0;have z1:=(World.ownsRow.cellAt hur (k*2+1) (by omega)).trans q1
   have hdr:QQ.drop k=(t:Int)::QQ.drop (k+1):=by
    rw[List.drop_eq_getElem_cons hlt];congr 1;exact(List.getElem?_eq_some_iff.1 hti).2
   have hcc:dP ol m.s QQ []=dP ol m.s (QQ.drop (k+1)) (jN ol m.s acc t):=by rw[HC.out,hdr];rfl
   have Hp:=AP (s:=m.s) htl HIN.out
   have hae:jN ol m.s acc t=if acc.all (λx=>!(Ch.meets (Ch.leaves ol m.s t) (Ch.leaves ol m.s x.toNat))||Ch.within ol t x.toNat)then acc.filter (λx=>!(Ch.meets (Ch.leaves ol m.s t) (Ch.leaves ol m.s x.toNat)))++[(t:Int)]else acc:=by
    unfold jN;rw[TJ]
    cases acc.all (λx=>!(Ch.meets (Ch.leaves ol m.s t) (Ch.leaves ol m.s x.toNat))||Ch.within ol t x.toNat)<;>simp
   generalize hmk:GM ol t=mk at*;have hb4:=heap_alloc_new wr (.cells #[.int .i64 a,.int .i64 mk] 301);have K4:Kp (λ_=>False) wr (wr.alloc (.cells #[.int .i64 a,.int .i64 mk] 301)):=(Kp.refl _ _).alloc _;have ho4:=K4.owns ho (λ_ _ x=>x);have vT:=KW.trans K4;have HCC:=hid (ae hcc (ae Hp hae));have HO:=hid (ae ho KW);clear hur q0 q1 hdr hcc Hp hae ho KW HC K4
   go_upto_region 7 with(fail)
   generalize wr.alloc (.cells #[.int .i64 a,.int .i64 mk] 301)=w4 at*;generalize AJ:wr.heap.size=ob at*;have HZ:=hid (ae hb4 (ae ho4 vT));obtain⟨la,lc,hlv⟩:=aF ho4;subst hlv;have ae2:=vT.size;clear hb4 ho4 vT z0 z1
   go_wp2_with fail
   go_loopw [9,10,11] (λwv jo jv wq=>∃j:Nat,jv= .int .i64 j/\j<=acc.length/\jo= .bool ((acc.take j).all (λx=>!(Ch.meets (Ch.leaves ol m.s t) (Ch.leaves ol m.s x.toNat))||Ch.within ol t x.toNat))/\wq.ownsRow w4.heap.size 301 2 wv ((acc.take j).filter (λx=>!(Ch.meets (Ch.leaves ol m.s t) (Ch.leaves ol m.s x.toNat)))).length (eS ol ((acc.take j).filter (λx=>!(Ch.meets (Ch.leaves ol m.s t) (Ch.leaves ol m.s x.toNat)))))/\Kp (λ_=>False) w4 wq) (λ_ _ jv _=>acc.length-(intOf jv).toNat)
   case atStart=>exact⟨0,rfl,Nat.zero_le _,rfl,World.ownsRow_nil _ _ _ _,Kp.refl _ _⟩
   case round=>
    obtain⟨j,rfl,hj,rfl,how,KQ⟩:=hrel
    by_cases hjl:j<acc.length
    ·have AK:(j:Int)<(acc.length:Int):=by omega
     have KQ2:=HZ.out.2.2.trans KQ;have hq:fy wr xb cb g l.length pv m:=HU.out.2.2.1.keep KQ2 (λx=>x);have yB:=HU.out.2.2.2.1.ai KQ2;have Xw:iH wr g on:=KQ2.at_ HU.out.2.2.2.2 (λx=>x);have hbq:=KQ.at_ HZ.out.1 (λx=>x);have hoq:=KQ.owns HZ.out.2.1 (λ_ _ x=>x)
     obtain⟨oi,hoi⟩:∃oi,acc[j]? =some oi:=⟨_,List.getElem?_eq_getElem hjl⟩
     have api:=HIN.out oi (List.mem_of_getElem? hoi)
     obtain⟨o,rfl⟩:∃o:Nat,oi=o:=⟨oi.toNat,by omega⟩
     obtain⟨a2,nd2,rt2,x2,adv,apj,aj5⟩:=hR.mv (t:=o) (by omega);obtain⟨g3,xk,hv3,_⟩:=World.ownsRow.form hoq (by omega);simp only[Value.slice.injEq]at hv3;obtain⟨rfl,-,rfl⟩:=hv3;obtain⟨q0,q1⟩:=lB ol acc j o hoi;rw[Int.toNat_natCast]at q0 q1;rw[adv]at q0;have y0:=(World.ownsRow.cellAt hoq (j*2) (by omega)).trans q0;have y1:=(World.ownsRow.cellAt hoq (j*2+1) (by omega)).trans q1
     have t0:wr.cell? ⟨ob,0,none⟩=some (.int .i64 a):=by rw[World.cell?,hbq];rfl
     have t1:wr.cell? ⟨ob,1,none⟩=some (.int .i64 mk):=by rw[World.cell?,hbq];rfl
     have KD:Kp (λ_=>False) wr wr.drew:=(Kp.refl _ _).drew;rw[<-hmk]at hmr;have E1:=hid (TU wr.drew B xb cb g pv m l _ ol t a _ o a2 _ nd nd2 rt rt2 x x2 on (hq.keep KD (λx=>x)) (KD.at_ Xw (λx=>x)) hso (yB.ai KD) hR hmr aj5)
     have Zj:Ch.within ol t o=au (Ch.ag l) a2 a:=by unfold Ch.within;rw[hsa,adv,hR.ag]
     have hall:(acc.take (j+1)).all (λx=>!(Ch.meets (Ch.leaves ol m.s t) (Ch.leaves ol m.s x.toNat))||Ch.within ol t x.toNat)=((acc.take j).all (λx=>!(Ch.meets (Ch.leaves ol m.s t) (Ch.leaves ol m.s x.toNat))||Ch.within ol t x.toNat)&&(!(Ch.meets (Ch.leaves ol m.s t) (Ch.leaves ol m.s o))||Ch.within ol t o)):=by
      rw[List.take_add_one,hoi,List.all_append];simp
     have hfil:(acc.take (j+1)).filter (λx=>!(Ch.meets (Ch.leaves ol m.s t) (Ch.leaves ol m.s x.toNat)))=(acc.take j).filter (λx=>!(Ch.meets (Ch.leaves ol m.s t) (Ch.leaves ol m.s x.toNat)))++(if Ch.meets (Ch.leaves ol m.s t) (Ch.leaves ol m.s o)then[]else[(o:Int)]):=by
      rw[List.take_add_one,hoi,List.filter_append]
      congr 1
      cases hmm:Ch.meets (Ch.leaves ol m.s t) (Ch.leaves ol m.s o)<;>simp[hmm]
     rw[hmk]at E1;rw[Zj]at hall;have hup:=hR.up;generalize hmo:GM ol o=mo at*;have HL:=hid (ae hall hfil)
     have aj6:((acc.take j).filter (λx=>!(Ch.meets (Ch.leaves ol m.s t) (Ch.leaves ol m.s x.toNat)))).length<=16:=by
      have h1:=List.length_filter_le (λx=>!(Ch.meets (Ch.leaves ol m.s t) (Ch.leaves ol m.s x.toNat))) (acc.take j)
      have h2:(acc.take j).length<=j:=by simp;omega
      omega
     have Cu:=rM ol ((acc.take j).filter (λx=>!(Ch.meets (Ch.leaves ol m.s t) (Ch.leaves ol m.s x.toNat)))) (o:Int)
     have hro:tP ol (o:Int)=[.int .i64 a2,.int .i64 mo]:=by unfold tP;rw[Int.toNat_natCast,adv,hmo]
     have IC:=hid (ae Cu hro);generalize (acc.take j).filter (λx=>!(Ch.meets (Ch.leaves ol m.s t) (Ch.leaves ol m.s x.toNat)))=flt at*;generalize (acc.take j).all (λx=>!(Ch.meets (Ch.leaves ol m.s t) (Ch.leaves ol m.s x.toNat))||Ch.within ol t x.toNat)=aj at*;generalize Ch.meets (Ch.leaves ol m.s t) (Ch.leaves ol m.s o)=mt at*;have HQ:=hid (ae hq (ae yB (ae how (ae KQ KD))));obtain⟨wa,wc,hwv⟩:=aF how;subst hwv;clear hq yB Xw hbq hoq q0 q1 Zj hall hfil Cu hro how KQ KQ2 KD
     go_upto_region 12 with(fail)
     go_region_held3 (λw'=>w'.cell? ⟨ob,0,none⟩=some (.int .i64 a)/\w'.cell? ⟨ob,1,none⟩=some (.int .i64 mk)/\w'.cell? ⟨g3,j*2,none⟩=some (.int .i64 a2)/\w'.cell? ⟨g3,j*2+1,none⟩=some (.int .i64 mo)) (first|exact⟨t0,t1,y0,y1⟩|exact HS.out) ((go_at_call 242;refine bH E1 ?_;rintro y w5 ⟨rfl,K5⟩;have H:=hid K5;have HS:=hid (ae (K5.bj t0) (ae (K5.bj t1) (ae (K5.bj y0) (K5.bj y1))));clear E1 K5))
     obtain⟨s0,s1,r0,r1⟩:=HS.out;have KQ5:=HQ.out.2.2.2.2.trans H.out;have Vh:=HQ.out.2.1.ai KQ5;have h5:fy w5 xb cb g l.length pv m:=HQ.out.1.keep KQ5 (λx=>x);have c05:w5.cell? ⟨xb,0,none⟩=some (.pointer (some ⟨cb,0,none⟩)):=h5.cell 0;have E2:=hid (λnn=>nV (w5.drewN nn) B cb l _ a2 a (Vh.ai ((Kp.refl _ _).drewN nn)) aaA hup (by omega));generalize au (Ch.ag l) a2 a=wi at*;have sr:=KQ5.owns HQ.out.2.2.1 (λ_ _ x=>x);have Vj:=HQ.out.2.2.2.1.trans KQ5;clear H HS HQ Vh h5 t0 t1 y0 y1
     go_upto_region 13 with(fail)
     go_quiet ((go_at_call 243;exact Calls.quiet_of_same (Hid.out E2 _)))
     have DH:=((Kp.refl (λ_=>False) w5).drewN nq).owns sr (λ_ _ x=>x);have Zv:=Vj.drewN nq;have apl:=Zv.size;clear E2 sr Vj
     cases mt with
     |true=>
      have HX:=hid (ae DH Zv);clear DH Zv
      cases wi
      ·go_wp2
       go_roundw
       case rel=>exact⟨j+1,by go_num,by omega,by rw[HL.out.1];cases aj<;>rfl,by rw[HL.out.2];simpa using HX.out.1,HX.out.2⟩
       case measure=>simp[intOf];omega
      go_wp2
      go_roundw
      case rel=>exact⟨j+1,by go_num,by omega,by rw[HL.out.1];cases aj<;>rfl,by rw[HL.out.2];simpa using HX.out.1,HX.out.2⟩
      case measure=>simp[intOf];omega
     |false=>?_
     have r0':(w5.drewN nq).cell? ⟨g3,j*2,none⟩=some (.int .i64 a2):=r0;have r1':(w5.drewN nq).cell? ⟨g3,j*2+1,none⟩=some (.int .i64 mo):=r1;clear r0 r1 s0 s1 c05;generalize w5.drewN nq=w6 at*
     go_wp2_with (at_builtin;refine wpList_append_own (P:=prog) _ rfl (.tmp 59) (.tmp 64) 276 rfl w4.heap.size 301 i0 (.agg #[.int .i64 0,.int .i64 0]) 2 16 underlying276 hi0 hz0 hz1 hz2 rfl (by decide) (.slice wa flt.length wc) flt.length (eS ol flt) rfl (by exact DH.alloc _) ⟨w6.heap.size,0,none⟩ 1 1 [.int .i64 a2,.int .i64 mo] rfl rfl (by exact jT _ _ _ _) (by intro u hu;simp at hu;rcases hu with rfl|rfl<;>rfl) (by unfold maxLen;omega) (by omega) (by simp;omega) ?_)
     intro v' w9 o9 g9 _;have K9:Kp (λ_=>False) w4 w9:=(Zv.alloc (.cells #[.int .i64 a2,.int .i64 mo] 301)).grown (by exact g9) (λj hj hlt=>by have:=(DH.lt j hj).1;omega);have TX:=hid (ae o9 K9);clear o9 g9 K9 DH Zv r0' r1';go_wp2
     go_roundw
     case rel=>
      refine⟨j+1,by go_num,by omega,by rw[HL.out.1];cases aj<;>rfl,?_,TX.out.2⟩;rw[HL.out.2];simp only[Bool.false_eq_true,if_false];rw[IC.out.1,IC.out.2];have:=TX.out.1;simpa using this
     case measure=>simp[intOf];omega
    have hge:¬(j:Int)<(acc.length:Int):=by omega
    obtain rfl:j=acc.length:=by omega
    rw[List.take_length]at how⊢;have hcc:=HCC.out;have hbq:=KQ.at_ HZ.out.1 (λx=>x);have KF:=HZ.out.2.2.trans KQ
    have t0:wr.cell? ⟨ob,0,none⟩=some (.int .i64 a):=by rw[World.cell?,hbq];rfl
    have t1:wr.cell? ⟨ob,1,none⟩=some (.int .i64 mk):=by rw[World.cell?,hbq];rfl
    have hrt:tP ol (t:Int)=[.int .i64 a,.int .i64 mk]:=by unfold tP;rw[Int.toNat_natCast,hsa,hmk]
    have aj6:=List.length_filter_le (λx=>!(Ch.meets (Ch.leaves ol m.s t) (Ch.leaves ol m.s x.toNat))) acc;have Cu:=rM ol (acc.filter (λx=>!(Ch.meets (Ch.leaves ol m.s t) (Ch.leaves ol m.s x.toNat)))) (t:Int);rw[hrt]at Cu;have hsz:=KF.size;have hsq:=KQ.size;generalize acc.filter (λx=>!(Ch.meets (Ch.leaves ol m.s t) (Ch.leaves ol m.s x.toNat)))=flt at*;generalize acc.all (λx=>!(Ch.meets (Ch.leaves ol m.s t) (Ch.leaves ol m.s x.toNat))||Ch.within ol t x.toNat)=aj at*;obtain⟨hc1,Hp,hae⟩:=hcc
    cases aj with
    |false=>
     simp only[Bool.false_eq_true,if_false]at hae;rw[hae]at hc1 Hp;have HN:=hid (ae hc1 Hp);have hor:=KQ.owns HZ.out.2.1 (λ_ _ x=>x);have HX:=hid (ae hor KF);clear hc1 Hp hae how hor KF Cu hrt hbq;go_wp2
     go_roundw
     case rel=>exact⟨k+1,acc,by go_num,by omega,by omega,hid HN.out.2.1,HX.out.1,hid HN.out.1,HX.out.2⟩
     case measure=>simp[intOf];omega
    |true=>?_
    simp only[if_true]at hae;rw[hae]at hc1 Hp;have HN:=hid (ae hc1 (ae Hp Cu));obtain⟨wa,wc,hwv⟩:=aF how;subst hwv;clear hc1 Hp hae Cu hrt hbq
    go_wp2_with (at_builtin;refine wpList_append_own (P:=prog) _ rfl (.tmp 67) (.tmp 69) 276 rfl w4.heap.size 301 i0 (.agg #[.int .i64 0,.int .i64 0]) 2 16 underlying276 hi0 hz0 hz1 hz2 rfl (by decide) (.slice wa flt.length wc) flt.length (eS ol flt) rfl (by exact how.alloc _) ⟨wr.heap.size,0,none⟩ 1 1 [.int .i64 a,.int .i64 mk] rfl rfl (by exact jT _ _ _ _) (by intro u hu;simp at hu;rcases hu with rfl|rfl<;>rfl) (by unfold maxLen;omega) (by omega) (by simp;omega) ?_)
    intro v' w9 o9 g9 _;have K9:Kp (λ_=>False) w2 w9:=(KF.alloc (.cells #[.int .i64 a,.int .i64 mk] 301)).grown (by exact g9) (λj hj hlt=>by have:=(how.lt j hj).1;omega);have TX:=hid (ae (cO o9 (show w.heap.size<=w4.heap.size by omega)) K9);clear o9 g9 K9 how KF t0 t1;go_wp2
    go_roundw
    case rel=>
     refine⟨k+1,flt++[(t:Int)],by go_num,by omega,by simp;omega,hid HN.out.2.1.1,?_,hid HN.out.1,TX.out.2⟩;rw[HN.out.2.2];have:=TX.out.1;simpa using this
    case measure=>simp[intOf];omega
  have hge:¬(k:Int)<(QQ.length:Int):=by omega
  obtain rfl:k=QQ.length:=by omega
  have HN:=hid (HC.out.trans (show _=acc by rw[List.drop_length];rfl));go_wp2;go_ret;rw[HN.out];exact⟨_,rfl,ho,HU.out.2.1.trans KW⟩
end
namespace Ch
theorem QR{l:List NV}{ol:Ol}(h:Rf l ol):cG (mk l)=(List.range ol.ag.length).filter (cX ol.ag):=by
 unfold cG;rw[h.len,cP];apply List.filter_congr;intro i hi;rw[<-h.ag];exact(xj (L:=mk l) (by rw[cP];simpa using hi)).symm
theorem xp{l:List NV}{ol:Ol}(h:Rf l ol)(s:Sd):jq ol.ag s=(cG (mk l)).map (aR s):=by unfold jq;rw[QR h]
theorem TZ{L:List RN}{i:Nat}(hi:i<L.length)(hk:(cS L i).kind=5):i∈cG L:=by
 unfold cG;rw[List.mem_filter];exact⟨by simpa using hi,by simpa using hk⟩
theorem OO{ss:List St}{s:Sd}{g:Nat}(h:(aA ss g !=5)=true):goal ss s g=g:=by
 unfold goal;rw[h];simp
theorem T_{ss:List St}{s:Sd}{g:Nat}(h16:g<16)(h:(aA ss g !=5)=false):goal ss s g=if aR s g==45 then cH ss (aw ss g)else place ss (aR s g):=by
 unfold goal
 have h1:decide ((g:Int)<0)=false:=by rw[decide_eq_false];omega
 have h2:decide (16<=(g:Int))=false:=by rw[decide_eq_false];omega
 rw[h1,h2,h,Int.toNat_natCast];rfl
end Ch
section
variable {w w':World} {base g cap:Nat} {v:Value} {n:Nat} {xs:List Value}
theorem eu.form(h:eu w base v n xs)(hn:0<n):∃g cap,v= .slice (some ⟨g,0,none⟩) n cap/\base<=g/\g<w.heap.size:=by
 rcases h.2 with⟨_,rfl⟩|⟨g,cap,cur,fr,rfl,hb,hg,_⟩
 ·omega
 exact⟨g,cap,rfl,hb,lt_of_block hg⟩
end
section
variable (w:World) (B B2 xb cb g:Nat) (pv:Value) (m:Ma) (l:List NV) (v:Value) (ol:Ol)
theorem Ua(t a k:Nat)(nd:NV)(rt:RT)(x:Tr)(h:fy w xb cb g l.length pv m)(hps:Qr w B2 ol m.s pv)(hI:Ch.Inv ol m.s)(hF:iG w B cb l v)(hR:Rf l ol)(hm:MvR l ol t a k nd rt x):
 Calls prog 248 #[.pointer (some ⟨xb,0,none⟩),.agg #[.int .i64 a,.int .i64 k]] w λy w'=>y= .returned (.int .i64 (gJ ol m.s t))/\Kp (λ_=>False) w w':=by
 have hgR:gJ ol m.s t=if x.target==45 then-1 else Ch.goal ol.ag m.s (Ch.place ol.ag x.target):=by unfold gJ;rw[Int.toNat_natCast,hm.htr]
 have hle:=hR.le;obtain⟨ao,cap,rfl⟩:=hF.2.1.len;have hb1:=heap_alloc_new w (.cells #[.int .i64 a,.int .i64 k] 301);have K1:Kp (λ_=>False) w (w.alloc (.cells #[.int .i64 a,.int .i64 k] 301)):=(Kp.refl _ _).alloc _;have hF1:=hF.ai K1;have h1:fy _ xb cb g l.length pv m:=h.keep K1 (λx=>x);have agh:Qr _ B2 ol m.s pv:=eu.keep hps K1 (λ_ _ x=>x);have E1:=hid (ze _ B xb cb g l.length pv m l _ a k nd rt x h1 hF1 hle hm.hnd hm.hrt hm.hok hm.hsz);have HH:=hid (ae h1 (ae hF1 (ae agh hgR)));clear h hF h1 hF1 hps agh hgR
 go_enter func248,ntmps248
 go_upto_region 1 with(fail)
 generalize w.alloc (.cells #[.int .i64 a,.int .i64 k] 301)=w1 at*;generalize w.heap.size=ob at*
 have m0:w1.cell? ⟨ob,0,none⟩=some (.int .i64 a):=by rw[World.cell?,hb1];rfl
 have m1:w1.cell? ⟨ob,1,none⟩=some (.int .i64 k):=by rw[World.cell?,hb1];rfl
 go_wp2_with fail
 refine bH E1 ?_;rintro y w2 ⟨rfl,K2⟩;have h2:fy w2 xb cb g l.length pv m:=HH.out.1.keep K2 (λx=>x);have hF2:=HH.out.2.1.ai K2;have adw:Qr w2 B2 ol m.s pv:=eu.keep HH.out.2.2.1 K2 (λ_ _ x=>x);have c0:w2.cell? ⟨xb,0,none⟩=some (.pointer (some ⟨cb,0,none⟩)):=h2.cell 0;have zc:=hF2.cell;have hgR:=HH.out.2.2.2;have Vi:=K1.trans K2;clear E1 HH m0 m1 hb1 K1 K2
 obtain⟨gt,hgt⟩:∃gt,eV (Ch.mk l) x.target=gt:=⟨_,rfl⟩
 rw[hgt]
 by_cases h45:x.target=45
 ·have hn:=hR.QP
  rw[<-h45,hgt]at hn;subst hn;rw[h45]at hgR;have HR:=hid (hgR.trans (show _= -1 from rfl));clear hgR hgt;go_wp2;go_ret;rw[HR.out];exact⟨rfl,Vi⟩
 obtain⟨gi,Kq,hg1,hg2⟩:∃gi:Nat,gi<l.length/\gt=gi/\Ch.place ol.ag x.target=gi:=by
  rcases hR.named x.target with⟨_,h2⟩|⟨i,hi,h1,h2⟩
  ·obtain⟨g',hg',_⟩:=hR.iP.tgt x (List.mem_of_getElem? hm.htr) h45
   omega
  exact⟨i,hi,by rw[<-hgt];exact h1,h2⟩
 subst hg1
 have ht:(x.target==45)=false:=by simpa using h45
 rw[ht,hg2]at hgR;simp only[Bool.false_eq_true,if_false]at hgR
 have hgi':(gi:Int)<(l.length:Int):=by omega
 obtain⟨y,hy⟩:∃y,l[gi]? =some y:=⟨_,List.getElem?_eq_getElem Kq⟩
 obtain⟨g1,Hm,hv,_,hcell,_⟩:=hF2.2.1.form hy;simp only[Value.slice.injEq]at hv;obtain⟨rfl,-,rfl⟩:=hv;have zk:w2.cell? ⟨g1,gi*7+1,none⟩=some (.int .i64 y.n.kind):=hcell 1 (by omega);have hkd:=hR.kind hy
 cases q5:y.n.kind !=5 with
 |true=>
  have HR:=hid (hgR.trans (OO (by rw[hkd];exact q5)));clear hgR hgt hcell h2 hF2 adw;go_wp2;go_ret;rw[HR.out];exact⟨rfl,Vi⟩
 |false=>?_
 have hg3:=hgR.trans (T_ (by omega) (by rw[hkd];exact q5));rw[hR.par hy]at hg3;have E2:=hid (uK w2 B cb l _ hF2 (by omega));have HX:=hid (ae h2 (ae hF2 (ae adw (ae hg3 Vi))));clear hgR hgt hcell h2 hF2 adw hg3 Vi
 go_wp2_with fail
 refine bH E2 ?_;rintro z w3 ⟨u,rfl,hu,K3⟩;obtain⟨ua,uc,rfl⟩:=aF hu;have hhas:gi∈cG (Ch.mk l):=TZ (by rw[cP];exact Kq) (by rw[iL hy];simpa using q5);have hpR:=xp hR m.s;have hhl:=tN (Ch.mk l);rw[cP]at hhl;have hpo:=hI.past gi (by rw[hR.len];exact Kq) (by rw[uE (by rw[hR.len];exact Kq),hkd];simpa using q5);generalize cG (Ch.mk l)=hs at*;have h3:fy w3 xb cb g l.length pv m:=HX.out.1.keep K3 (λx=>x);have Ow:=HX.out.2.1.ai K3;have Xx:Qr w3 B2 ol m.s pv:=eu.keep HX.out.2.2.1 K3 (λ_ _ x=>x);unfold Qr at Xx;rw[hpR]at Xx;obtain⟨pa,pc,hpv⟩:=Xx.len;subst hpv;have HY:=hid (ae hu (ae h3 (ae Ow (ae Xx (ae HX.out.2.2.2.1 (ae (HX.out.2.2.2.2.trans K3) hhas))))));have HPO:=hid hpo;simp only[List.length_map]at*;clear hu h3 Ow Xx K3 E2 hhas hpR hpo HX c0 zc zk
 go_wp2_with fail
 go_loopw [7] (λkv wr=>∃e:Nat,kv= .int .i64 e/\e<=hs.length/\Hid (∀j,j<e->hs[j]? =some gi->aR m.s gi=45)/\Kp (λ_=>False) w3 wr) (λkv _=>hs.length-(intOf kv).toNat)
 case atStart=>exact⟨0,rfl,Nat.zero_le _,hid (λj h=>absurd h (by omega)),Kp.refl _ _⟩
 case round=>
  obtain⟨e,rfl,he,HB,KW⟩:=hrel;have hr:fy wr xb cb g l.length (.slice pa hs.length pc) m:=HY.out.2.1.keep KW (λx=>x);have ey:=HY.out.2.2.1.ai KW;have hur:=KW.owns HY.out.1 (λ_ _ x=>x);have hpr:=HY.out.2.2.2.1.keep KW (λ_ _ x=>x);have KF:=HY.out.2.2.2.2.2.1.trans KW;have c0:wr.cell? ⟨xb,0,none⟩=some (.pointer (some ⟨cb,0,none⟩)):=hr.cell 0;have c2:wr.cell? ⟨xb,2,none⟩=some (.slice pa hs.length pc):=hr.cell 2;have zc:=ey.cell
  by_cases hlt:e<hs.length
  ·have hlt':(e:Int)<(hs.length:Int):=by omega
   obtain⟨hj,Xy⟩:∃hj,hs[e]? =some hj:=⟨_,List.getElem?_eq_getElem hlt⟩
   obtain⟨g2,cap2,hv2,_⟩:=World.ownsRow.form hur (by omega);simp only[Value.slice.injEq]at hv2;obtain⟨rfl,-,rfl⟩:=hv2
   have zh:wr.cell? ⟨g2,e,none⟩=some (.int .i64 hj):=by
    rw[World.ownsRow.cellAt hur e (by omega)];simp[aJ,im,Xy]
   obtain⟨g3,xk,hv3,_⟩:=hpr.form (by omega);simp only[Value.slice.injEq]at hv3;obtain⟨rfl,-,rfl⟩:=hv3
   have zp:wr.cell? ⟨g3,e,none⟩=some (.int .u8 (aR m.s hj)):=by
    rw[hpr.cellAt e (by omega)];simp[ar,Xy]
   have Ft:=hid (λ(hh:hj=gi->aR m.s gi=45)=>show∀j,j<e+1->hs[j]? =some gi->aR m.s gi=45 from λj hj' hs'=>by
    rcases Nat.lt_or_eq_of_le (Nat.le_of_lt_succ hj')with h'|h'
    ·exact HB.out j h' hs'
    subst h';rw[Xy]at hs';exact hh (by simpa using hs'))
   have Dc:=hid (ae KW KF)
   by_cases hji:hj=gi
   ·subst hji
    cases qp:aR m.s hj !=45 with
    |false=>
     have HN:=hid (Ft.out (λ_=>by simpa using qp));clear hr ey hur hpr KW KF Ft HB Xy;go_wp2
     go_roundw
     case rel=>exact⟨e+1,by go_num,by omega,hid HN.out,Dc.out.1⟩
     case measure=>simp[intOf];omega
    |true=>?_
    have hne:(aR m.s hj==45)=false:=by simpa using qp
    have hg3:=HY.out.2.2.2.2.1;rw[hne]at hg3;simp only[Bool.false_eq_true,if_false]at hg3
    have hpl:eV (Ch.mk l) (aR m.s hj)=Ch.place ol.ag (aR m.s hj):=by
     have hp:=HPO.out;unfold gy at hp;rw[hne]at hp;simp only[Bool.false_eq_true,if_false]at hp
     rcases hR.named (aR m.s hj)with⟨_,h2⟩|⟨i,_,h1,h2⟩
     ·rw[h2]at hp;cases hp
     rw[h1,h2]
    have HN:=hid (hg3.trans hpl.symm);have E:=hid (λnn=>vG (wr.drewN nn) B cb l _ (aR m.s hj) (ey.ai ((Kp.refl _ _).drewN nn)) (by omega));clear hr ey hur hpr KW KF Ft HB Xy hg3 hpl
    go_upto_region 9 with(fail)
    go_quiet ((go_at_call 236;exact Calls.quiet_of_same (Hid.out E _)))
    go_wp2;go_ret;rw[HN.out];exact⟨rfl,Dc.out.2.drewN _⟩
   have apn:((hj:Int)==(gi:Int))=false:=by simp;omega
   have HN:=hid (Ft.out (λh=>absurd h hji));clear hr ey hur hpr KW KF Ft HB Xy hji;go_wp2
   go_roundw
   case rel=>exact⟨e+1,by go_num,by omega,hid HN.out,Dc.out.1⟩
   case measure=>simp[intOf];omega
  have hge:¬(e:Int)<(hs.length:Int):=by omega
  obtain rfl:e=hs.length:=by omega
  have aj7:aR m.s gi=45:=by
   obtain⟨j,hj⟩:=List.getElem?_of_mem HY.out.2.2.2.2.2.2;exact HB.out j (List.getElem?_eq_some_iff.1 hj).1 hj
  have hg3:=HY.out.2.2.2.2.1;rw[aj7]at hg3;have hsh:=hR.iP.qg.hs gi (by rw[hR.len];exact Kq) (.inl (by rw[hkd];simpa using q5));obtain⟨p,yi,agi⟩:=hR.iP.qg.par hsh.1 (by rw[hR.len];exact Kq)
  have hyp:y.n.parent=p:=by rw[<-hR.par hy];exact yi
  rw[hyp]at hg3
  have hkne:cQ ol.ag p≠[]:=by
   rw[yi]at hsh;obtain⟨j,_,hj⟩:=hR.iP.qg.kid p (by rw[hR.len];omega) (.inl hsh.2);intro hz;have:=bJ.2 hj;rw[hz]at this;cases this
  have hfc:=vy hkne;rw[<-oL hR]at hfc hkne
  have hgf:gJ ol m.s t=((cE (Ch.mk l) (p:Int)).headD 0:Nat):=by rw[hg3];simpa using hfc
  obtain⟨g1',Ku,hv',_,hcell',_⟩:=ey.2.1.form hy;simp only[Value.slice.injEq,Option.some.injEq,Addr.mk.injEq,true_and,and_true]at hv';obtain⟨rfl,rfl⟩:=hv'
  have zp:wr.cell? ⟨g1,gi*7+2,none⟩=some (.int .i64 p):=by rw[<-hyp];exact hcell' 2 (by omega)
  have E:=hid (iE wr.drew B cb l _ (p:Int) (ey.ai (Kp.refl _ _).drew) (by omega));generalize cE (Ch.mk l) (p:Int)=ks at*;have HN:=hid hgf;have HKN:=hid hkne;clear hr ey hur hpr hg3 hfc hgf hkne hcell' hsh HB
  go_upto_region 10 with(fail)
  go_region_held3 (λw'=>w'.cell? ⟨xb,0,none⟩=some (.pointer (some ⟨cb,0,none⟩))/\w'.cell? ⟨cb,0,none⟩=some (.slice (some ⟨g1,0,none⟩) l.length cap)/\w'.cell? ⟨g1,gi*7+2,none⟩=some (.int .i64 p)) (first|exact⟨c0,zc,zp⟩|exact HS.out) ((go_at_call 234;refine bH E ?_;rintro z w5 ⟨u5,rfl,G8,K5⟩;have H:=hid (ae G8 K5);have HS:=hid (ae (K5.bj c0) (ae (K5.bj zc) (K5.bj zp)));clear E G8 K5))
  obtain⟨G8,K5⟩:=H.out;clear H HS
  cases ks with
  |nil=>exact absurd rfl HKN.out
  |cons k0 kt=>?_
  obtain⟨g5,cap5,hv5,_⟩:=World.ownsRow.form G8 (by simp);subst hv5
  have z5:w5.cell? ⟨g5,0,none⟩=some (.int .i64 k0):=by
   rw[World.ownsRow.cellAt G8 0 (by simp)];simp[aJ,im]
  have rL:=hid (KF.drew.trans K5)
  have hl5:(0:Int)<((k0::kt).length:Int):=by simp
  generalize (k0::kt).length=kl at*;clear G8 K5 KF KW;go_wp2;go_ret;rw[HN.out];exact⟨rfl,rL.out⟩
end
end Go.Proofs.YtnlbchmfcebeeaaGreat
