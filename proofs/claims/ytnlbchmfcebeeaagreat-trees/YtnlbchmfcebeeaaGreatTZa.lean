import Derived.Test.YtnlbchmfcebeeaaGreatTXr
import Derived.Test.YtnlbchmfcebeeaaGreatTXd
set_option maxHeartbeats 12800000
set_option maxRecDepth 100000
namespace Go.Proofs.YtnlbchmfcebeeaaGreat
open Go.Proofs.Tryz Ch
open Go.RowKit
theorem Rf.named{l:List NV}{ol:Ol}(h:Rf l ol)(c:Int):(eV (Ch.mk l) c= -1/\Ch.place ol.ag c= -2)\/∃i:Nat,i<l.length/\eV (Ch.mk l) c=i/\Ch.place ol.ag c=i:=by
 have:=jl (Ch.mk l) c;rw[show(Ch.mk l).map RN.st=ol.ag from h.ag,cP]at this
 rcases this with⟨a,b,_⟩|⟨i,hi,a,b,_⟩
 ·exact .inl ⟨a,b⟩
 exact .inr ⟨i,hi,a,b⟩
theorem Rf.QP{l:List NV}{ol:Ol}(h:Rf l ol):eV (Ch.mk l) 45= -1:=by
 rcases jl (Ch.mk l) 45 with⟨a,_,_⟩|⟨i,hi,_,_,hn⟩
 ·exact a
 rw[cP]at hi;have hx:l[i]? =some l[i]:=List.getElem?_eq_getElem hi;rw[iL hx]at hn;have:=h.nm i _ hx;omega
theorem xo{l:List RT}{k:Nat}{x:RT}(h:l[k]? =some x):(gX l)[k*2]? =some (.string x.text):=by
 induction l generalizing k with
 |nil=>simp at h
 |cons a l ih=>?_
 have e:gX (a::l)=[.string a.text,.int .i64 a.pos]++gX l:=by simp[gX]
 rw[e]
 cases k with
 |zero=>simp at h;subst h;rfl
 |succ k=>?_
 rw[List.getElem?_append_right (by simp;omega)];have:=ih (k:=k) (by simpa using h);rw[show(k+1)*2-[Value.string a.text,.int .i64 a.pos].length=k*2 by simp;omega];exact this
theorem Cr:∃d,prog.underlying 301=some d/\ak d=true:=⟨_,underlying301,rfl⟩
theorem OI:(prog.info? 301).map (·.size)=some 2:=by kernel_rfl
section
variable (w:World) (B xb cb g n:Nat) (pv:Value) (m:Ma) (l:List NV) (v:Value)
theorem Fx(a k:Nat)(nd:NV)(rt:RT)(h:fy w xb cb g n pv m)(hF:iG w B cb l v)(hnd:l[a]? =some nd)(hrt:nd.n.trans[k]? =some rt):
 Calls prog 245 #[.pointer (some ⟨xb,0,none⟩),.agg #[.int .i64 a,.int .i64 k]] w λy w'=>y= .returned (.string rt.text)/\Kp (λ_=>False) w w':=by
 obtain⟨ao,cap,rfl⟩:=hF.2.1.len;have hlt:=(List.getElem?_eq_some_iff.1 hnd).1
 have hlt':(a:Int)<(l.length:Int):=by omega
 have hk:=(List.getElem?_eq_some_iff.1 hrt).1;have hb1:=heap_alloc_new w (.cells #[.int .i64 a,.int .i64 k] 301);have K1:Kp (λ_=>False) w (w.alloc (.cells #[.int .i64 a,.int .i64 k] 301)):=(Kp.refl _ _).alloc _;have hF1:=hF.ai K1;have h1:fy _ xb cb g n pv m:=h.keep K1 (λx=>x);obtain⟨g1,Hm,hv,_,hcell,_⟩:=hF1.2.1.form hnd;simp only[Value.slice.injEq]at hv;obtain⟨rfl,-,rfl⟩:=hv;have htr:=hF1.2.1.iX nd (List.mem_of_getElem? hnd);obtain⟨g2,cap2,hv2,_⟩:=World.ownsRow.form htr (by omega);have z6:=hcell 6 (by omega);rw[show(lV nd)[6]? =some nd.tv from rfl,hv2]at z6;rw[hv2]at htr;have zt:=(World.ownsRow.cellAt htr (k*2) (by omega)).trans (xo hrt);have c0:World.cell? _ ⟨xb,0,none⟩=some (.pointer (some ⟨cb,0,none⟩)):=h1.cell 0;have zc:=hF1.cell
 have hk':(k:Int)<(nd.n.trans.length:Int):=by omega
 clear hF1 h1 hcell htr h hF
 go_enter func245,ntmps245
 go_upto_region 1 with(fail)
 generalize w.alloc (.cells #[.int .i64 a,.int .i64 k] 301)=w1 at*;generalize w.heap.size=ob at*
 have m0:w1.cell? ⟨ob,0,none⟩=some (.int .i64 a):=by rw[World.cell?,hb1];rfl
 have m1:w1.cell? ⟨ob,1,none⟩=some (.int .i64 k):=by rw[World.cell?,hb1];rfl
 clear hb1
 go_quiet (fail)
 go_wp2;go_ret;exact⟨rfl,K1.drewN _⟩
theorem ze(a k:Nat)(nd:NV)(rt:RT)(x:Tr)(h:fy w xb cb g n pv m)(hF:iG w B cb l v)(hl:l.length<=16)(hnd:l[a]? =some nd)(hrt:nd.n.trans[k]? =some rt)(hx:vu rt x)(hsz:rt.text.size<=300):
 Calls prog 268 #[.pointer (some ⟨xb,0,none⟩),.agg #[.int .i64 a,.int .i64 k]] w λy w'=>y= .returned (.int .i64 (eV (Ch.mk l) x.target))/\Kp (λ_=>False) w w':=by
 obtain⟨d,hd,eY⟩:=Cr;obtain⟨he1,_,he2⟩:=hx.ends;have hb1:=heap_alloc_new w (.cells #[.int .i64 a,.int .i64 k] 301);have K1:Kp (λ_=>False) w (w.alloc (.cells #[.int .i64 a,.int .i64 k] 301)):=(Kp.refl _ _).alloc _;have hF1:=hF.ai K1;have h1:fy _ xb cb g n pv m:=h.keep K1 (λx=>x);have E1:=hid (Fx _ B xb cb g n pv m l v a k nd rt h1 hF1 hnd hrt)
 obtain⟨q,hq⟩:∃q,rt.text.size=q+1:=⟨rt.text.size-1,by omega⟩
 have hpos:q<rt.text.size:=by omega
 have hqi:(rt.text.size:Int)=(q:Int)+1:=by omega
 have hb2:((rt.text[q]'hpos).toNat:Int)=x.target:=by rw[<-he2,show rt.text.size-1=q by omega];simp[af,hpos]
 have aI:(prog.info? 301).map (·.size)=some 2:=OI;have HH:=hid (ae h1 hF1);clear h hF h1 hF1 he2
 go_enter func268,ntmps268
 go_upto_region 1 with(fail)
 generalize w.alloc (.cells #[.int .i64 a,.int .i64 k] 301)=w1 at*;generalize w.heap.size=ob at*
 have m0:w1.cell? ⟨ob,0,none⟩=some (.int .i64 a):=by rw[World.cell?,hb1];rfl
 have m1:w1.cell? ⟨ob,1,none⟩=some (.int .i64 k):=by rw[World.cell?,hb1];rfl
 go_wp2_with fail
 refine bH E1 ?_;rintro y w2 ⟨rfl,K2⟩;have hF2:=HH.out.2.ai K2;have h2:fy w2 xb cb g n pv m:=HH.out.1.keep K2 (λx=>x);have c0:w2.cell? ⟨xb,0,none⟩=some (.pointer (some ⟨cb,0,none⟩)):=h2.cell 0;have E2:=hid (λnn=>vG (w2.drewN nn) B cb l v ((rt.text[q]'hpos).toNat:Int) (hF2.ai ((Kp.refl _ _).drewN nn)) (by omega))
 have hlt1:(q:Int)<(q:Int)+1:=by omega
 have HK:=hid (K1.trans K2);clear E1 hF2 h2 HH m0 m1 hb1 K1 K2 hnd hrt hx;have HB:=hid hb2;clear hb2 hq;generalize rt.text=s at*
 go_upto_region 2 with(fail)
 go_quiet ((go_at_call 236;exact Calls.quiet_of_same (Hid.out E2 _)))
 go_wp2;go_ret;rw[<-HB.out];exact⟨rfl,HK.out.drewN _⟩
end
namespace Ch
theorem TR{ss:List St}(hu:Up ss)(tg:Int):∀(n f g:Nat) (d:Int),-1<=d->(d+1).toNat<=n->(d+1).toNat<=f->(d+1).toNat<=g->n_ ss tg f d=n_ ss tg g d:=by
 intro n
 induction n with
 |zero=>
  intro f g d h0 h1 _ _
  have:d= -1:=by omega
  subst this;rw[nA ss tg f (by rfl),nA ss tg g (by rfl)]
 |succ n ih=>?_
 intro f g d h0 h1 h2 h3
 cases q:(d != -1)&& !s6 ss d tg with
 |false=>rw[nA ss tg f q,nA ss tg g q]
 |true=>?_
 have hd:d≠ -1:=by simp at q;exact q.1
 match f,g,h2,h3 with
 |0,_,h2,_=>omega
 |_+1,0,_,h3=>omega
 |f+1,g+1,h2,h3=>
  simp only[n_];rw[if_pos q,if_pos q];have a:=fH hu d;have b:=gP hu (i:=d) (by omega);exact ih f g _ a (by omega) (by omega) (by omega)
theorem adq(ss:List St)(tg:Int):dm ss tg (-1)= -1:=rfl
theorem adr{ss:List St}{tg d:Int}(h:s6 ss d tg=true):dm ss tg d=d:=nA ss tg _ (by rw[h];simp)
theorem aaz{ss:List St}(hu:Up ss){tg d:Int}(h0:0<=d)(h:s6 ss d tg=false):dm ss tg d=dm ss tg (aw ss d):=by
 unfold dm
 obtain⟨f,hf⟩:∃f,(d+1).toNat=f+1:=⟨d.toNat,by omega⟩
 rw[hf];simp only[n_]
 have:((d != -1)&& !s6 ss d tg)=true:=by rw[h];simp;omega
 rw[if_pos this];have a:=fH hu d;have b:=gP hu (i:=d) (by omega);exact TR hu tg f f _ _ a (by omega) (by omega) (Nat.le_refl _)
end Ch
structure MvR(l:List NV)(ol:Ol)(t a k:Nat)(nd:NV)(rt:RT)(x:Tr):Prop where
 hnd:l[a]? =some nd
 hrt:nd.n.trans[k]? =some rt
 htr:ol.bG[t]? =some x
 hst:x.state=a
 hok:vu rt x
 hsz:rt.text.size<=300
section
variable (w:World) (B xb cb g:Nat) (pv:Value) (m:Ma) (l:List NV) (v:Value) (ol:Ol)
theorem yH(t a k i:Nat)(nd:NV)(rt:RT)(x:Tr)(on:List Bool)(h:fy w xb cb g l.length pv m)(hon:iH w g on)(hso:fJ l.length on m.s.act)(hF:iG w B cb l v)(hR:Rf l ol)(hm:MvR l ol t a k nd rt x)(hi:i<l.length):
 Calls prog 266 #[.pointer (some ⟨xb,0,none⟩),.agg #[.int .i64 a,.int .i64 k],.int .i64 i] w λy w'=>y= .returned (.bool (Ch.lv ol m.s t i))/\Kp (λ_=>False) w w':=by
 obtain⟨d,hd,eY⟩:=Cr;have hlv:=abu (s:=m.s) (t:=(t:Int)) (show ol.bG[((t:Int)).toNat]? =some x from hm.htr) i;rw[hm.hst,decide_eq_true (by rw[hR.len];exact hi),Bool.true_and,<-hso.2.2 i]at hlv
 have hdom:dom ol.ag a x.target=Ch.dm ol.ag (Ch.place ol.ag x.target) nd.n.parent:=by rw[<-hR.par hm.hnd];rfl
 rw[hdom]at hlv;have hle:=hR.le;obtain⟨ao,cap,rfl⟩:=hF.2.1.len;have hb1:=heap_alloc_new w (.cells #[.int .i64 a,.int .i64 k] 301);have K1:Kp (λ_=>False) w (w.alloc (.cells #[.int .i64 a,.int .i64 k] 301)):=(Kp.refl _ _).alloc _;have hF1:=hF.ai K1;have h1:fy _ xb cb g l.length pv m:=h.keep K1 (λx=>x);have sC:iH _ g on:=K1.at_ hon (λx=>x);have E1:=hid (ze _ B xb cb g l.length pv m l _ a k nd rt x h1 hF1 hle hm.hnd hm.hrt hm.hok hm.hsz);have HH:=hid (ae h1 (ae hF1 (ae sC hlv)));clear h hF h1 hF1 hon sC hlv hdom
 go_enter func266,ntmps266
 go_upto_region 1 with(fail)
 generalize w.alloc (.cells #[.int .i64 a,.int .i64 k] 301)=w1 at*;generalize w.heap.size=ob at*
 have m0:w1.cell? ⟨ob,0,none⟩=some (.int .i64 a):=by rw[World.cell?,hb1];rfl
 have m1:w1.cell? ⟨ob,1,none⟩=some (.int .i64 k):=by rw[World.cell?,hb1];rfl
 go_wp2_with fail
 refine bH E1 ?_;rintro y w2 ⟨rfl,K2⟩;have hb2:=K2.at_ hb1 (λx=>x)
 have m0':w2.cell? ⟨ob,0,none⟩=some (.int .i64 a):=by rw[World.cell?,hb2];rfl
 have h2:fy w2 xb cb g l.length pv m:=HH.out.1.keep K2 (λx=>x);have hF2:=HH.out.2.1.ai K2;have OJ:iH w2 g on:=K2.at_ HH.out.2.2.1 (λx=>x);have c0:w2.cell? ⟨xb,0,none⟩=some (.pointer (some ⟨cb,0,none⟩)):=h2.cell 0;have c1:w2.cell? ⟨xb,1,none⟩=some (.slice (some ⟨g,0,none⟩) l.length l.length):=h2.cell 1;have DE:=OJ.cell (k:=i) (by have:=hso.1;omega);have hlv:=HH.out.2.2.2
 have hi':(i:Int)<(l.length:Int):=by omega
 have Vi:=K1.trans K2;clear E1 HH m0 m1 hb1 hb2 K1 K2
 obtain⟨gt,hgt⟩:∃gt,eV (Ch.mk l) x.target=gt:=⟨_,rfl⟩
 rw[hgt]
 by_cases h45:x.target=45
 ·have hn:=hR.QP
  rw[<-h45,hgt]at hn;subst hn;rw[h45]at hlv;have HR:=hid (hlv.trans (show _=false from rfl));clear hlv hgt;go_wp2;go_ret;rw[HR.out];exact⟨rfl,Vi⟩
 obtain⟨gi,Kq,hg1,hg2⟩:∃gi:Nat,gi<l.length/\gt=gi/\Ch.place ol.ag x.target=gi:=by
  rcases hR.named x.target with⟨_,h2⟩|⟨i,hi,h1,h2⟩
  ·obtain⟨g',hg',_⟩:=hR.iP.tgt x (List.mem_of_getElem? hm.htr) h45
   omega
  exact⟨i,hi,by rw[<-hgt];exact h1,h2⟩
 subst hg1
 have ht:(x.target==45)=false:=by simpa using h45
 rw[ht,hg2]at hlv;simp only[Bool.not_false,Bool.true_and]at hlv
 have hgi':(gi:Int)<(l.length:Int):=by omega
 cases qo:eJ on i with
 |false=>
  rw[qo]at DE hlv;have HR:=hid (hlv.trans (Bool.false_and _));clear hlv hgt;go_wp2;go_ret;rw[HR.out];exact⟨rfl,Vi⟩
 |true=>?_
 rw[qo]at DE hlv;rw[Bool.true_and]at hlv;have hal:=(List.getElem?_eq_some_iff.1 hm.hnd).1
 have aaA:(a:Int)<(l.length:Int):=by omega
 obtain⟨g1,Hm,hv,_,hcell,_⟩:=hF2.2.1.form hm.hnd;simp only[Value.slice.injEq]at hv;obtain⟨rfl,-,rfl⟩:=hv;have zp:w2.cell? ⟨g1,a*7+2,none⟩=some (.int .i64 nd.n.parent):=hcell 2 (by omega);have zc:=hF2.cell;have hup:=hR.up;have hpd:=hup a ⟨nd.n.name,nd.n.pos,nd.n.kind,nd.n.parent⟩ (by unfold Ch.ag Ch.mk;rw[List.getElem?_map,List.getElem?_map,hm.hnd];rfl);simp only at hpd;have HX:=hid (ae hlv (ae hF2 (ae h2 Vi)));clear hlv hF2 h2 hcell hgt OJ Vi
 go_wp2_with fail
 go_quiet (fail)
 go_wp2_with fail
 go_loopw [8] (λdv wr=>∃dd:Int,dv= .int .i64 dd/\ -1<=dd/\dd<l.length/\Hid (Ch.lv ol m.s t i=au ol.ag (Ch.dm ol.ag gi dd) i)/\Kp (λ_=>False) w2 wr) (λdv _=>(intOf dv+1).toNat)
 case atStart=>exact⟨nd.n.parent,rfl,hpd.1,by omega,hid HX.out.1,(Kp.refl _ _).drewN _⟩
 case round=>
  obtain⟨dd,rfl,hd1,hd2,HE,KW⟩:=hrel;have ey:=HX.out.2.1.ai KW;have hr:fy wr xb cb g l.length pv m:=HX.out.2.2.1.keep KW (λx=>x);have c0r:wr.cell? ⟨xb,0,none⟩=some (.pointer (some ⟨cb,0,none⟩)):=hr.cell 0;have zcr:=ey.cell;clear hr
  by_cases hd0:0<=dd
  ·obtain⟨dk,rfl⟩:∃dk:Nat,dd=dk:=⟨dd.toNat,by omega⟩
   have hdk:dk<l.length:=by omega
   obtain⟨y,hy⟩:∃y,l[dk]? =some y:=⟨_,List.getElem?_eq_getElem hdk⟩
   obtain⟨g3,xk,hv3,_,lA,_⟩:=ey.2.1.form hy;simp only[Value.slice.injEq,Option.some.injEq,Addr.mk.injEq,true_and,and_true]at hv3;obtain⟨rfl,rfl⟩:=hv3;have zk:wr.cell? ⟨g1,dk*7+1,none⟩=some (.int .i64 y.n.kind):=lA 1 (by omega);have zp3:wr.cell? ⟨g1,dk*7+2,none⟩=some (.int .i64 y.n.parent):=lA 2 (by omega);have hpy:=hup dk ⟨y.n.name,y.n.pos,y.n.kind,y.n.parent⟩ (by unfold Ch.ag Ch.mk;rw[List.getElem?_map,List.getElem?_map,hy];rfl);simp only at hpy;have E:=hid (nV wr B cb l _ dk gi ey Kq hup (by omega));have E2:=hid (nV wr B cb l _ dk i ey hi hup (by omega))
   have hen:s6 ol.ag dk gi=(y.n.kind==2&&au ol.ag dk gi):=by unfold s6;rw[hR.kind hy]
   have hhit:=λh=>HE.out.trans (by rw[adr (ss:=ol.ag) (tg:=gi) (d:=dk) h])
   have hgo:=λh=>HE.out.trans (show _=au ol.ag (Ch.dm ol.ag gi y.n.parent) i by rw[aaz hR.iP.qg.up (tg:=gi) (d:=dk) (by omega) h,hR.par hy])
   rw[hen]at hhit hgo;rw[hR.ag]at E E2;have aaB:=hid hhit;have WD:=hid hgo;clear lA hen hhit hgo ey HE;generalize au ol.ag dk gi=ov at*
   cases ov with
   |false=>
    have HN:=hid (WD.out (by simp));clear WD aaB
    go_wp2_with fail
    refine bH E ?_;rintro z w5 ⟨rfl,e5⟩;rw[e5];go_wp2
    go_roundw
    case rel=>exact⟨y.n.parent,rfl,hpy.1,by omega,hid HN.out,KW⟩
    case measure=>simp[intOf];omega
   |true=>?_
   cases q2:y.n.kind==2 with
   |false=>
    have HN:=hid (WD.out (by rw[q2];rfl));clear WD aaB
    go_wp2_with fail
    refine bH E ?_;rintro z w5 ⟨rfl,e5⟩;rw[e5];go_wp2
    go_roundw
    case rel=>exact⟨y.n.parent,rfl,hpy.1,by omega,hid HN.out,KW⟩
    case measure=>simp[intOf];omega
   |true=>?_
   have HN:=hid (aaB.out (by rw[q2];rfl));clear WD aaB
   go_wp2_with fail
   refine bH E ?_;rintro z w5 ⟨rfl,e5⟩;rw[e5]
   go_wp2_with fail
   refine bH E2 ?_;rintro z w6 ⟨rfl,e6⟩;rw[e6];go_wp2;go_ret;rw[HN.out];exact⟨rfl,HX.out.2.2.2.trans KW⟩
  have hdm:dd= -1:=by omega
  subst hdm;have E2:=hid (nV wr B cb l _ (-1) i ey hi hup (by omega));rw[hR.ag]at E2;have HN:=hid (HE.out.trans (by rw[adq]));clear HE ey
  go_wp2_with fail
  refine bH E2 ?_;rintro z w6 ⟨rfl,e6⟩;rw[e6];go_wp2;go_ret;rw[HN.out];exact⟨rfl,HX.out.2.2.2.trans KW⟩
end
namespace Ch
theorem aaC{n k:Nat}{p:Nat->Bool}(hk:k<n)(h:p k=true):(List.range n).any p=true:=by
 rw[List.any_eq_true];exact⟨k,by simpa using hk,h⟩
theorem ads{n:Nat}{p:Nat->Bool}(h:∀k,k<n->p k=false):(List.range n).any p=false:=by
 rw[List.any_eq_false];intro k hk;simp[h k (by simpa using hk)]
end Ch
section
variable (w:World) (B xb cb g:Nat) (pv:Value) (m:Ma) (l:List NV) (v:Value) (ol:Ol)
theorem TU(t a k t2 a2 k2:Nat)(nd nd2:NV)(rt rt2:RT)(x x2:Tr)(on:List Bool)(h:fy w xb cb g l.length pv m)(hon:iH w g on)(hso:fJ l.length on m.s.act)(hF:iG w B cb l v)(hR:Rf l ol)(hm:MvR l ol t a k nd rt x)(hm2:MvR l ol t2 a2 k2 nd2 rt2 x2):
 Calls prog 242 #[.pointer (some ⟨xb,0,none⟩),.agg #[.int .i64 a,.int .i64 k],.agg #[.int .i64 a2,.int .i64 k2]] w λy w'=>y= .returned (.bool (Ch.meets (Ch.leaves ol m.s t) (Ch.leaves ol m.s t2)))/\Kp (λ_=>False) w w':=by
 have hM:=Ch.xU hR.iP.le m.s t t2;rw[hR.len]at hM;obtain⟨ao,cap,rfl⟩:=hF.2.1.len;have hle:=hR.le;have hb1:=heap_alloc_new w (.cells #[.int .i64 a,.int .i64 k] 301);have hb2:=heap_alloc_new (w.alloc (.cells #[.int .i64 a,.int .i64 k] 301)) (.cells #[.int .i64 a2,.int .i64 k2] 301);have hb1':=((Kp.refl (λ_=>False) (w.alloc (.cells #[.int .i64 a,.int .i64 k] 301))).alloc (.cells #[.int .i64 a2,.int .i64 k2] 301)).at_ hb1 (λx=>x);rw[show(w.alloc (.cells #[.int .i64 a,.int .i64 k] 301)).heap.size=w.heap.size+1 by simp only[World.alloc,Array.size_push]]at hb2;have K1:Kp (λ_=>False) w ((w.alloc (.cells #[.int .i64 a,.int .i64 k] 301)).alloc (.cells #[.int .i64 a2,.int .i64 k2] 301)):=((Kp.refl _ _).alloc _).alloc _;have hF1:=hF.ai K1;have h1:fy _ xb cb g l.length pv m:=h.keep K1 (λx=>x);have sC:iH _ g on:=K1.at_ hon (λx=>x);have HH:=hid (ae h1 (ae hF1 (ae sC (ae hb1' hb2))));have HM:=hid hM;clear h hF h1 hF1 hon sC hb1 hb2 hb1' hM
 go_enter func242,ntmps242
 go_upto_region 1 with(fail)
 generalize (w.alloc (.cells #[.int .i64 a,.int .i64 k] 301)).alloc (.cells #[.int .i64 a2,.int .i64 k2] 301)=w1 at*;generalize w.heap.size=ob at*
 go_wp2_with fail
 go_loopw [7] (λiv wr=>∃i:Nat,iv= .int .i64 i/\i<=l.length/\Hid (∀j,j<i->(Ch.lv ol m.s t j&&Ch.lv ol m.s t2 j)=false)/\Kp (λ_=>False) w1 wr) (λiv _=>l.length-(intOf iv).toNat)
 case atStart=>exact⟨0,rfl,Nat.zero_le _,hid (λj h=>absurd h (by omega)),Kp.refl _ _⟩
 case round=>
  obtain⟨i,rfl,hi,HB,KW⟩:=hrel;have hr:fy wr xb cb g l.length pv m:=HH.out.1.keep KW (λx=>x);have ey:=HH.out.2.1.ai KW;have iI:iH wr g on:=KW.at_ HH.out.2.2.1 (λx=>x);have b1:=KW.at_ HH.out.2.2.2.1 (λx=>x);have c0:wr.cell? ⟨xb,0,none⟩=some (.pointer (some ⟨cb,0,none⟩)):=hr.cell 0;have zc:=ey.cell
  have m0:wr.cell? ⟨ob,0,none⟩=some (.int .i64 a):=by rw[World.cell?,b1];rfl
  have m1:wr.cell? ⟨ob,1,none⟩=some (.int .i64 k):=by rw[World.cell?,b1];rfl
  by_cases hlt:i<l.length
  ·have hlt':(i:Int)<(l.length:Int):=by omega
   have E1:=hid (yH wr B xb cb g pv m l _ ol t a k i nd rt x on hr iI hso ey hR hm hlt);have HW:=hid (ae hr (ae ey (ae iI KW)));have ajW:=hid (λh=>HM.out.trans (aaC hlt (p:=λj=>Ch.lv ol m.s t j&&Ch.lv ol m.s t2 j) h))
   have Ft:=hid (λ(h:(Ch.lv ol m.s t i&&Ch.lv ol m.s t2 i)=false)=>show∀j,j<i+1->(Ch.lv ol m.s t j&&Ch.lv ol m.s t2 j)=false from λj hj=>by
    rcases Nat.lt_or_eq_of_le (Nat.le_of_lt_succ hj)with h'|h'
    ·exact HB.out j h'
    subst h';exact h)
   clear hr ey iI KW b1 HB
   go_wp2_with fail
   refine bH E1 ?_;rintro y w2 ⟨rfl,K2⟩;have YZ:=HW.out.2.2.2.trans K2;have b2:=YZ.at_ HH.out.2.2.2.2 (λx=>x)
   have n0:w2.cell? ⟨ob+1,0,none⟩=some (.int .i64 a2):=by rw[World.cell?,b2];rfl
   have n1:w2.cell? ⟨ob+1,1,none⟩=some (.int .i64 k2):=by rw[World.cell?,b2];rfl
   have E2:=hid (yH w2 B xb cb g pv m l _ ol t2 a2 k2 i nd2 rt2 x2 on (HW.out.1.keep K2 (λx=>x)) (K2.at_ HW.out.2.2.1 (λx=>x)) hso (HW.out.2.1.ai K2) hR hm2 hlt);clear E1 K2 b2 HW m0 m1 c0 zc;generalize Ch.lv ol m.s t i=v1 at*;generalize Ch.lv ol m.s t2 i=v2 at*
   go_wp2_with fail
   refine bH E2 ?_;rintro y w3 ⟨rfl,K3⟩;have HK:=hid (YZ.trans K3);clear E2 K3 YZ n0 n1
   cases v1<;>cases v2
   ·go_wp2
    go_roundw
    case rel=>exact⟨i+1,by go_num,by omega,hid (Ft.out rfl),HK.out⟩
    case measure=>simp[intOf];omega
   ·go_wp2
    go_roundw
    case rel=>exact⟨i+1,by go_num,by omega,hid (Ft.out rfl),HK.out⟩
    case measure=>simp[intOf];omega
   ·go_wp2
    go_roundw
    case rel=>exact⟨i+1,by go_num,by omega,hid (Ft.out rfl),HK.out⟩
    case measure=>simp[intOf];omega
   have HR2:=hid (ajW.out rfl);go_wp2;go_ret;rw[HR2.out];exact⟨rfl,K1.trans HK.out⟩
  have hge:¬(i:Int)<(l.length:Int):=by omega
  obtain rfl:i=l.length:=by omega
  have HR2:=hid (HM.out.trans (ads HB.out));clear hr ey iI b1;go_wp2;go_ret;rw[HR2.out];exact⟨rfl,K1.trans KW⟩
end
namespace Ch
theorem Cs{ol:Ol}(hu:Up ol.ag)(s:Sd)(trg:Int):∀(n f g:Nat) (i:Int),-1<=i->(i+2).toNat<=n->(i+2).toNat<=f->(i+2).toNat<=g->bN ol s trg f i=bN ol s trg g i:=by
 intro n
 induction n with
 |zero=>intro f g i h0 h1;omega
 |succ n ih=>?_
 intro f g i h0 h1 h2 h3
 match f,g,h2,h3 with
 |0,_,h2,_=>omega
 |_+1,0,_,h3=>omega
 |f+1,g+1,h2,h3=>
  simp only[bN]
  by_cases c:i= -1
  ·subst c;rfl
  have a:=fH hu i;have b:=gP hu (i:=i) (by omega);rw[ih f g (aw ol.ag i) a (by omega) (by omega) (by omega)]
theorem Hn(ol:Ol)(s:Sd)(trg:Int):cr ol s (-1) trg= -2:=rfl
theorem Ho{ol:Ol}{s:Sd}{trg:Int}{i t:Nat}(h:gQ ol s i trg=t):cr ol s i trg=t:=by
 unfold cr;rw[show((i:Int)+2).toNat=i+1+1 by omega];simp only[bN];rw[h]
 have h1:((i:Int)== -1)=false:=by simp
 have h2:((t:Int)!= -2)=true:=by simp
 rw[h1,h2];rfl
theorem Kr{ol:Ol}(hu:Up ol.ag){s:Sd}{trg:Int}{i:Nat}(h:gQ ol s i trg= -2):cr ol s i trg=cr ol s (aw ol.ag i) trg:=by
 have a:=fH hu i;have b:=gP hu (i:=(i:Int)) (by omega)
 have e:cr ol s i trg=bN ol s trg (i+1) (aw ol.ag i):=by
  unfold cr;rw[show((i:Int)+2).toNat=i+1+1 by omega]
  have h1:((i:Int)== -1)=false:=by simp
  show(if((i:Int)== -1)=true then(-2:Int)else if(gQ ol s i trg != -2)=true then gQ ol s i trg else bN ol s trg (i+1) (aw ol.ag i))=_;rw[h1,h];rfl
 rw[e];unfold cr;exact Cs hu s trg (i+1) _ _ _ a (by omega) (by omega) (Nat.le_refl _)
def mvA(ol:Ol)(f:Int):Array Value:=if f== -2 then #[.int .i64 0,.int .i64 0]else #[.int .i64 (eG ol f.toNat),.int .i64 (GM ol f.toNat)]
theorem adu{ol:Ol}{t a k:Nat}(h:V5 ol t a k):mvA ol t= #[.int .i64 a,.int .i64 k]:=by
 unfold mvA
 have:((t:Int)== -2)=false:=by simp
 rw[this];simp only[Bool.false_eq_true,if_false,Int.toNat_natCast];rw[h.st,h.rk]
end Ch
section
variable (w:World) (B xb cb g:Nat) (pv:Value) (m:Ma) (l:List NV) (v:Value) (ol:Ol)
theorem OK(i:Nat)(trg:Int)(h:fy w xb cb g l.length pv m)(hF:iG w B cb l v)(hR:Rf l ol)(hi:i<l.length):
 Calls prog 265 #[.pointer (some ⟨xb,0,none⟩),.int .i64 i,.int .u8 trg] w λy w'=>y= .returned (.tuple #[.agg (mvA ol (cr ol m.s i trg)),.bool (cr ol m.s i trg != -2)])/\Kp (λ_=>False) w w':=by
 obtain⟨d,hd,eY⟩:=Cr;obtain⟨ao,cap,rfl⟩:=hF.2.1.len;have hle:=hR.le;have hb1:=heap_alloc_new w (.cells #[.int .i64 0,.int .i64 0] 301);have K1:Kp (λ_=>False) w (w.alloc (.cells #[.int .i64 0,.int .i64 0] 301)):=(Kp.refl _ _).alloc _;have hF1:=hF.ai K1;have h1:fy _ xb cb g l.length pv m:=h.keep K1 (λx=>x);have HH:=hid (ae h1 (ae hF1 hb1));clear h hF h1 hF1 hb1
 go_enter func265,ntmps265
 go_upto_region 1 with(fail)
 generalize w.alloc (.cells #[.int .i64 0,.int .i64 0] 301)=w1 at*;generalize AJ:w.heap.size=ob at*
 go_wp2_with fail
 go_loopw [8] (λjv wr=>∃p:Int,jv= .int .i64 p/\ -1<=p/\p<l.length/\Hid (cr ol m.s i trg=cr ol m.s p trg)/\Kp (λ_=>False) w1 wr) (λjv _=>(intOf jv+1).toNat)
 case atStart=>exact⟨i,rfl,by omega,by omega,hid rfl,Kp.refl _ _⟩
 case round=>
  obtain⟨p,rfl,hp1,hp2,HE,KW⟩:=hrel;have hr:fy wr xb cb g l.length pv m:=HH.out.1.keep KW (λx=>x);have ey:=HH.out.2.1.ai KW;have hbr:=KW.at_ HH.out.2.2 (λx=>x);have c0:wr.cell? ⟨xb,0,none⟩=some (.pointer (some ⟨cb,0,none⟩)):=hr.cell 0;have zc:=ey.cell
  by_cases hp0:0<=p
  ·obtain⟨j,rfl⟩:∃j:Nat,p=j:=⟨p.toNat,by omega⟩
   have hj:j<l.length:=by omega
   have hj':(j:Int)<(l.length:Int):=by omega
   obtain⟨nd,hnd⟩:∃nd,l[j]? =some nd:=⟨_,List.getElem?_eq_getElem hj⟩
   have hfa:=hR.bG j nd hnd;have HFL:=hid hfa.len
   have htl:nd.n.trans.length<=240:=by rw[hfa.len];exact Nat.le_trans (List.length_filter_le _ _) hR.ok.bG
   have hpy:=hR.up j ⟨nd.n.name,nd.n.pos,nd.n.kind,nd.n.parent⟩ (by unfold Ch.ag Ch.mk;rw[List.getElem?_map,List.getElem?_map,hnd];rfl);simp only at hpy;have HW:=hid (ae hr (ae ey (ae hbr (ae hfa KW))));clear hr ey hbr hfa KW c0 zc
   go_wp2_with fail
   go_loopw [9] (λkv wq=>∃k:Nat,kv= .int .i64 k/\k<=nd.n.trans.length/\Hid (∀(e:Nat) (y:Tr),e<k->(ol.bG.filter (oV j))[e]? =some y->xn m.s trg y=false)/\Kp (λ_=>False) wr wq) (λkv _=>nd.n.trans.length-(intOf kv).toNat)
   case atStart=>exact⟨0,rfl,Nat.zero_le _,hid (λe y h=>absurd h (by omega)),Kp.refl _ _⟩
   case round=>
    obtain⟨k,rfl,hk,HB,KQ⟩:=hrel;have hq:fy wr xb cb g l.length pv m:=HW.out.1.keep KQ (λx=>x);have yB:=HW.out.2.1.ai KQ;have hbq:=KQ.at_ HW.out.2.2.1 (λx=>x);have c0:wr.cell? ⟨xb,0,none⟩=some (.pointer (some ⟨cb,0,none⟩)):=hq.cell 0;have zc:=yB.cell;obtain⟨g1,Hm,hv,_,hcell,_⟩:=yB.2.1.form hnd;simp only[Value.slice.injEq]at hv;obtain⟨rfl,-,rfl⟩:=hv;have htr:=yB.2.1.iX nd (List.mem_of_getElem? hnd);have z6:=hcell 6 (by omega);rw[show(lV nd)[6]? =some nd.tv from rfl]at z6;have zp:wr.cell? ⟨g1,j*7+2,none⟩=some (.int .i64 nd.n.parent):=hcell 2 (by omega);obtain⟨ta,tc,Tv⟩:=aF htr;rw[Tv]at z6 htr;have HKQ:=hid (K1.trans (HW.out.2.2.2.2.trans KQ));have HKO:=hid (HW.out.2.2.2.2.trans KQ)
    by_cases hlt:k<nd.n.trans.length
    ·have hlt':(k:Int)<(nd.n.trans.length:Int):=by omega
     obtain⟨rt,hrt⟩:∃rt,nd.n.trans[k]? =some rt:=⟨_,List.getElem?_eq_getElem hlt⟩
     obtain⟨x,hx,hok⟩:=HW.out.2.2.2.1.adn hrt;obtain⟨g2,cap2,hv2,_⟩:=World.ownsRow.form htr (by omega);simp only[Value.slice.injEq]at hv2;obtain⟨rfl,-,rfl⟩:=hv2;have zt:=(World.ownsRow.cellAt htr (k*2) (by omega)).trans (xo hrt);have hsz:=hR.tb nd (List.mem_of_getElem? hnd) rt (List.mem_of_getElem? hrt);have he:=hok.ends
     have hx0:0<rt.text.size:=by omega
     have hb0:((rt.text[0]'hx0).toNat:Int)=x.kr:=by rw[<-he.2.1];simp[af,hx0]
     have E:=hid (OG wr xb cb g l.length pv m rt x hq hok (by omega))
     have hhit:xn m.s trg x=(((rt.text[0]'hx0).toNat:Int)==trg&&Ch.holds m.s x.guard):=by unfold xn;rw[hb0]
     have HFH:=hid (λ(hh:xn m.s trg x=true)=>OD (ol:=ol) (s:=m.s) hx hh HB.out)
     have Ft:=hid (λ(hh:xn m.s trg x=false)=>show∀(e:Nat) (y:Tr),e<k+1->(ol.bG.filter (oV j))[e]? =some y->xn m.s trg y=false from λe y he hy=>by
      rcases Nat.lt_or_eq_of_le (Nat.le_of_lt_succ he)with h'|h'
      ·exact HB.out e y h' hy
      subst h';rw[hx]at hy;obtain rfl:x=y:=by simpa using hy
      exact hh)
     have HT:=hid hhit;have HBQ:=hid hbq;clear yB hcell htr HB hok hhit hb0 hq hbq he hrt;generalize rt.text=s at*;generalize Ch.holds m.s x.guard=ho at*
     go_wp2_with fail
     refine hm E ?_;rintro y w5 ⟨rfl,K5⟩;have hb5:=K5.at_ HBQ.out (λx=>x)
     have r0:w5.cell? ⟨ob,0,none⟩=some (.int .i64 0):=by rw[World.cell?,hb5];rfl
     have r1:w5.cell? ⟨ob,1,none⟩=some (.int .i64 0):=by rw[World.cell?,hb5];rfl
     have fr0:w5.frozen? ⟨ob,0,none⟩=false:=by simp[World.frozen?,hb5]
     have fr1:w5.frozen? ⟨ob,1,none⟩=false:=by simp[World.frozen?,hb5]
     have HB5:=hid (MvW.set hb5 j k);have rL:=hid (ae (HKQ.out.trans K5) (KQ.trans K5));clear E hb5 K5 c0 zc z6 zp zt KQ
     cases ho with
     |false=>
      have HF:=hid (Ft.out (by rw[HT.out,Bool.and_false]));clear HT Ft HFH;go_wp2
      go_roundw
      case rel=>exact⟨k+1,by go_num,by omega,hid HF.out,rL.out.2⟩
      case measure=>simp[intOf];omega
     |true=>?_
     cases qt:((s[0]'hx0).toNat:Int)==trg with
     |false=>
      have HF:=hid (Ft.out (by rw[HT.out,qt];rfl));clear HT Ft HFH;go_wp2
      go_roundw
      case rel=>exact⟨k+1,by go_num,by omega,hid HF.out,rL.out.2⟩
      case measure=>simp[intOf];omega
     |true=>?_
     obtain⟨t,hmv,hfi⟩:=HFH.out (by rw[HT.out,qt];rfl);have HN:=hid (HE.out.trans (Ho hfi));have HM:=hid (adu hmv);clear HT Ft HFH hmv hfi;go_wp2;refine bodyPost_ret (results_cell_tmp rfl _ _ ob 301 #[.int .i64 j,.int .i64 k] (0,0) d rfl HB5.out hd eY OI) rfl ?_;rw[HN.out,HM.out];refine⟨by simp,?_⟩;exact rL.out.1.trans' (((Kp.refl (λk=>k=ob) _).setCell (by intro _;rfl) _).setCell (by intro _;rfl) _) (λi hi e=>by omega)
    have hge:¬(k:Int)<(nd.n.trans.length:Int):=by omega
    obtain rfl:k=nd.n.trans.length:=by omega
    have HN:=hid (HE.out.trans (show _=cr ol m.s nd.n.parent trg by
     rw[Kr hR.iP.qg.up (Ki (λx hx=>by
      obtain⟨e,hxe⟩:=List.getElem?_of_mem hx;have:=(List.getElem?_eq_some_iff.1 hxe).1;have:=HFL.out
      exact HB.out e x (by omega) hxe)),hR.par hnd]))
    clear yB hcell htr HB HE hq hbq;go_wp2
    go_roundw
    case rel=>exact⟨nd.n.parent,rfl,hpy.1,by omega,hid HN.out,HKO.out⟩
    case measure=>simp[intOf];omega
  have hp:p= -1:=by omega
  subst hp;have HN:=hid (HE.out.trans (Hn ol m.s trg))
  have r0:wr.cell? ⟨ob,0,none⟩=some (.int .i64 0):=by rw[World.cell?,hbr];rfl
  have r1:wr.cell? ⟨ob,1,none⟩=some (.int .i64 0):=by rw[World.cell?,hbr];rfl
  have fr0:wr.frozen? ⟨ob,0,none⟩=false:=by simp[World.frozen?,hbr]
  have fr1:wr.frozen? ⟨ob,1,none⟩=false:=by simp[World.frozen?,hbr]
  have HB:=hid (MvW.set hbr 0 0);have HK:=hid (ae K1 KW);clear HE hr ey hbr;go_wp2;refine bodyPost_ret (results_cell_tmp rfl _ _ ob 301 #[.int .i64 0,.int .i64 0] (0,0) d rfl HB.out hd eY OI) rfl ?_;rw[HN.out];refine⟨rfl,?_⟩;exact HK.out.1.trans' (((HK.out.2.mono (S':=λk=>k=ob) (λ_ _ x=>x.elim)).setCell (by intro _;rfl) _).setCell (by intro _;rfl) _) (λi hi e=>by omega)
end
theorem Xr:(prog.info? 301).map (λi=>(i.zero,i.size,i.bytes))=some (some (.agg #[.int .i64 0,.int .i64 0]),2,16):=by kernel_rfl
def tP(ol:Ol)(t:Int):List Value:=[.int .i64 (eG ol t.toNat),.int .i64 (GM ol t.toNat)]
def eS(ol:Ol)(ts:List Int):List Value:=ts.flatMap (tP ol)
theorem rM(ol:Ol)(ts:List Int)(t:Int):eS ol (ts++[t])=eS ol ts++tP ol t:=by simp[eS]
theorem lB(ol:Ol)(ts:List Int)(k:Nat)(t:Int)(h:ts[k]? =some t):(eS ol ts)[k*2]? =some (.int .i64 (eG ol t.toNat))/\(eS ol ts)[k*2+1]? =some (.int .i64 (GM ol t.toNat)):=by
 induction ts generalizing k with
 |nil=>simp at h
 |cons a l ih=>?_
 have e:eS ol (a::l)=tP ol a++eS ol l:=by simp[eS]
 rw[e]
 cases k with
 |zero=>simp at h;subst h;exact⟨rfl,rfl⟩
 |succ k=>?_
 obtain⟨h1,h2⟩:=ih (k:=k) (by simpa using h);rw[List.getElem?_append_right (by simp[tP];omega),List.getElem?_append_right (by simp[tP];omega)];simp only[tP,List.length_cons,List.length_nil];rw[show(k+1)*2-(0+1+1)=k*2 by omega,show(k+1)*2+1-(0+1+1)=k*2+1 by omega];exact⟨h1,h2⟩
namespace Ch
theorem OL(ol:Ol)(s:Sd)(trg:Int):∀(f k:Nat) (fl:List Int),findF ol s trg (f+1) k fl=dw ol s trg (findF ol s trg f k fl) (k+f):=by
 intro f
 induction f with
 |zero=>intro k fl;rfl
 |succ f ih=>?_
 intro k fl;have e:findF ol s trg (f+1+1) k fl=findF ol s trg (f+1) (k+1) (dw ol s trg fl k):=rfl;rw[e,ih (k+1) _];have e2:findF ol s trg (f+1) k fl=findF ol s trg f (k+1) (dw ol s trg fl k):=rfl;rw[e2,show k+1+f=k+(f+1)by omega]
def yI(ol:Ol)(s:Sd)(trg:Int)(k:Nat):List Int:=findF ol s trg k 0 []
theorem TV(ol:Ol)(s:Sd)(trg:Int)(k:Nat):yI ol s trg (k+1)=dw ol s trg (yI ol s trg k) k:=by
 unfold yI;rw[OL,Nat.zero_add]
theorem oL{l:List NV}{ol:Ol}(h:Rf l ol)(i:Nat):cE (mk l) (i:Int)=cQ ol.ag i:=by
 unfold cE cQ;rw[h.len,cP];apply List.filter_congr;intro j hj;rw[<-h.ag];exact(jh (L:=mk l) (by rw[cP];simpa using hj)).symm
theorem aaD{l:List NV}{ol:Ol}(h:Rf l ol){s:Sd}(hI:Inv ol s){k:Nat}(hk:k<l.length):rB ol.ag s.act k=(bit s.act k&&(cE (mk l) (k:Int)).length==0):=by
 rw[oL h];unfold rB;rw[cT]
 cases q:bit s.act k with
 |false=>rfl
 |true=>?_
 simp only[Bool.true_and];have hx:l[k]? =some l[k]:=List.getElem?_eq_getElem hk;have hkd:=h.kd k _ hx;rw[<-h.kind hx]at hkd;have h5:=hI.conf.cX k q
 have hkl:k<ol.ag.length:=by rw[h.len];exact hk
 by_cases c:aA ol.ag k=2\/aA ol.ag k=3
 ·obtain⟨j,_,hj⟩:=h.iP.qg.kid k hkl c
  have hm:=bJ.2 hj
  have h0:((cQ ol.ag k).length==0)=false:=by
   cases q2:cQ ol.ag k with
   |nil=>rw[q2]at hm;cases hm
   |cons a t=>rfl
  rw[h0]
  have h1:(aA ol.ag k==1)=false:=by simp;omega
  have h4:(aA ol.ag k==4)=false:=by simp;omega
  rw[h1,h4];rfl
 have h0:cQ ol.ag k=[]:=by
  cases q2:cQ ol.ag k with
  |nil=>rfl
  |cons a t=>?_
  exfalso
  have hm:a∈cQ ol.ag k:=by rw[q2];simp
  have hc:=bJ.1 hm;have hlt:=oY h.iP.qg hc;have:=h.iP.qg.pk a (by omega) hlt.2;rw[(cA hc).2.1]at this;exact c this
 rw[h0]
 rcases(by omega:aA ol.ag k=1\/aA ol.ag k=4)with e|e<;>rw[e]<;>rfl
theorem aaE{ol:Ol}(hO:Ah ol){e t:Nat}(he:e<ol.bG.length)(ht:t<ol.bG.length):(eG ol e==eG ol t&&((GM ol e:Int)==(GM ol t:Int)))=((e:Int)==(t:Int)):=by
 have h1:ol.bG[e]? =some ol.bG[e]:=List.getElem?_eq_getElem he;have h2:ol.bG[t]? =some ol.bG[t]:=List.getElem?_eq_getElem ht
 have s1:eG ol e=(ol.bG[e]).state:=by unfold eG;rw[h1]
 have s2:eG ol t=(ol.bG[t]).state:=by unfold eG;rw[h2]
 rw[s1,s2]
 by_cases c:e=t
 ·subst c;simp
 have hne:((e:Int)==(t:Int))=false:=by simp;omega
 rw[hne]
 cases q:(ol.bG[e]).state==(ol.bG[t]).state with
 |false=>rfl
 |true=>?_
 have hs:(ol.bG[e]).state=(ol.bG[t]).state:=by simpa using q
 obtain⟨k,hk,_⟩:=hO.src _ (List.getElem_mem he)
 have:GM ol e≠GM ol t:=λhk'=>c (adm h1 h2 hs (by omega) hk')
 simp only[Bool.true_and,beq_eq_false_iff_ne,ne_eq];omega
end Ch
section
variable (w:World) (B xb cb g:Nat) (pv:Value) (m:Ma) (l:List NV) (v:Value) (ol:Ol)
theorem OM(trg:Int)(on:List Bool)(h:fy w xb cb g l.length pv m)(hon:iH w g on)(hso:fJ l.length on m.s.act)(hI:Ch.Inv ol m.s)(hF:iG w B cb l v)(hR:Rf l ol):
 Calls prog 241 #[.pointer (some ⟨xb,0,none⟩),.int .u8 trg] w λy w'=>∃u,y= .returned u/\w'.ownsRow w.heap.size 301 2 u (Ch.find ol m.s trg).length (eS ol (Ch.find ol m.s trg))/\Kp (λ_=>False) w w':=by
 obtain⟨i0,hi0,hz0,hz1,hz2⟩:=info_parts Xr;obtain⟨d,hd,eY⟩:=Cr;obtain⟨ao,cap,rfl⟩:=hF.2.1.len;have hle:=hR.le;have HH:=hid (ae h (ae hF hon));clear h hF hon
 go_enter func241,ntmps241
 go_wp2_with fail
 go_loopw [5,6] (λfv iv wr=>∃k:Nat,iv= .int .i64 k/\k<=l.length/\wr.ownsRow w.heap.size 301 2 fv (yI ol m.s trg k).length (eS ol (yI ol m.s trg k))/\Kp (λ_=>False) w wr) (λ_ iv _=>l.length-(intOf iv).toNat)
 case atStart=>exact⟨0,rfl,Nat.zero_le _,World.ownsRow_nil _ _ _ _,Kp.refl _ _⟩
 case round=>
  obtain⟨k,rfl,hk,ho,KW⟩:=hrel;have hr:fy wr xb cb g l.length pv m:=HH.out.1.keep KW (λx=>x);have ey:=HH.out.2.1.ai KW;have iI:iH wr g on:=KW.at_ HH.out.2.2 (λx=>x);have c0:wr.cell? ⟨xb,0,none⟩=some (.pointer (some ⟨cb,0,none⟩)):=hr.cell 0;have zc:=ey.cell
  by_cases hlt:k<l.length
  ·have hlt':(k:Int)<(l.length:Int):=by omega
   have E1:=hid (iE wr B cb l _ (k:Int) ey (by omega));have hlf:=aaD hR hI hlt;rw[<-hso.2.2 k]at hlf;have hst:=TV ol m.s trg k;unfold dw at hst;rw[hlf]at hst;have hkl:=jB (Ch.mk l) (k:Int);rw[cP]at hkl;generalize cE (Ch.mk l) (k:Int)=ks at*;have hin:=I6 (ol:=ol) (s:=m.s) (trg:=trg) k 0 [] (by intro n hn;cases hn);have HST:=hid (ae hst (show InT ol (yI ol m.s trg k)from hin.1))
   have hfl:(yI ol m.s trg k).length<=k:=by have:=hin.2;unfold yI;simpa using this
   generalize yI ol m.s trg k=fl at*;have HW:=hid (ae hr (ae ey (ae iI (ae ho KW))));clear hr ey iI ho KW hlf hst hin
   go_wp2_with fail
   refine bH E1 ?_;rintro y w2 ⟨u,rfl,hu,K2⟩;obtain⟨ua,uc,rfl⟩:=aF hu;have h2:fy w2 xb cb g l.length pv m:=HW.out.1.keep K2 (λx=>x);have hF2:=HW.out.2.1.ai K2;have OJ:iH w2 g on:=K2.at_ HW.out.2.2.1 (λx=>x);have ho2:=K2.owns HW.out.2.2.2.1 (λ_ _ x=>x);have YZ:=HW.out.2.2.2.2.trans K2;have c1:w2.cell? ⟨xb,1,none⟩=some (.slice (some ⟨g,0,none⟩) l.length l.length):=h2.cell 1;have DE:=OJ.cell (k:=k) (by have:=hso.1;omega);clear E1 HW K2 hu c0 zc
   cases qo:eJ on k with
   |false=>
    have HF:=hid (show yI ol m.s trg (k+1)=fl by rw[HST.out.1,qo];rfl);rw[qo]at DE;have HX:=hid (ae ho2 YZ);clear HST h2 hF2 OJ ho2 YZ;go_wp2
    go_roundw
    case rel=>exact⟨k+1,by go_num,by omega,by rw[HF.out];exact HX.out.1,HX.out.2⟩
    case measure=>simp[intOf];omega
   |true=>?_
   rw[qo]at DE
   by_cases hks:ks.length=0
   ·have af8:¬(0:Int)<(ks.length:Int):=by omega
    have hst:=HST.out.1;rw[qo,show(ks.length==0)=true by simpa using hks]at hst;simp only[Bool.and_self,Bool.true_and]at hst;have E2:=hid (OK w2 B xb cb g pv m l _ ol k trg h2 hF2 hR hlt);have hat:=s8 ol m.s trg ((k:Int)+2).toNat k;have HX:=hid (ae hst (ae HST.out.2 (ae ho2 YZ)));clear HST hst h2 hF2 OJ ho2 YZ;generalize hff:cr ol m.s k trg=ff at*
    obtain⟨A,KK,hA⟩:∃A KK:Int,mvA ol ff= #[.int .i64 A,.int .i64 KK]:=by
     unfold mvA;split
     ·exact⟨_,_,rfl⟩
     exact⟨_,_,rfl⟩
    rw[hA]at E2;have HA:=hid hA;clear hA
    go_wp2_with fail
    refine bH E2 ?_;rintro y w3 ⟨rfl,K3⟩;clear E2;have K4:Kp (λ_=>False) w2 (w3.alloc (.cells #[.int .i64 A,.int .i64 KK] 301)):=K3.alloc _;have hb4:=heap_alloc_new w3 (.cells #[.int .i64 A,.int .i64 KK] 301)
    go_upto_region 8 with(fail)
    generalize w3.alloc (.cells #[.int .i64 A,.int .i64 KK] 301)=w4 at*;generalize w3.heap.size=mb at*;have ho4:=K4.owns HX.out.2.2.1 (λ_ _ x=>x);have vT:=HX.out.2.2.2.trans K4
    have agd:∀(e:Nat) (fe:Int),fl[e]? =some fe->(if(eG ol fe.toNat==A&&((GM ol fe.toNat:Nat):Int)==KK)then false else(ff != -2)&& !((fl.take e).any (· ==ff)))=((ff != -2)&& !((fl.take (e+1)).any (· ==ff))):=by
     intro e fe hfe
     have hsn:(fl.take (e+1)).any (· ==ff)=((fl.take e).any (· ==ff)||fe==ff):=by
      rw[List.take_add_one,hfe,List.any_append];simp
     rw[hsn]
     by_cases c:ff= -2
     ·subst c
      have:((-2:Int)!= -2)=false:=rfl;rw[this];simp
     have hne:(ff != -2)=true:=by simpa using c
     rw[hne]
     obtain⟨t,ht,htl⟩:∃t:Nat,ff=t/\t<ol.bG.length:=by
      rcases hat with e2|⟨t,e2,e3⟩
      ·exact absurd (hff▸e2) c
      exact⟨t,by rw[<-hff];exact e2,e3⟩
     have hin:=HX.out.2.1 fe (List.mem_of_getElem? hfe)
     obtain⟨fn,hfn⟩:∃fn:Nat,fe=fn:=⟨fe.toNat,by omega⟩
     have kQ:=HA.out;rw[ht]at kQ;unfold mvA at kQ;rw[show((t:Int)== -2)=false by simp]at kQ;simp only[Bool.false_eq_true,if_false,Int.toNat_natCast]at kQ
     have h0:eG ol t=A:=by
      have:=congrArg (λz=>z[0]?) kQ;simpa using this
     have h1:((GM ol t:Nat):Int)=KK:=by
      have:=congrArg (λz=>z[1]?) kQ;simpa using this
     rw[<-h0,<-h1,hfn,Int.toNat_natCast,aaE hR.iP (by omega) htl,ht]
     cases((fn:Int)==(t:Int))<;>simp
    have HT:=hid agd;have HZ:=hid (ae hb4 (ae ho4 vT));clear agd hb4 ho4 vT K3 K4 hat;obtain⟨la,lc,G8⟩:=aF HZ.out.2.1;subst G8
    go_wp2_with fail
    go_loopw [9,10] (λokv ev wq=>∃e:Nat,ev= .int .i64 e/\e<=fl.length/\okv= .bool ((ff != -2)&& !((fl.take e).any (· ==ff)))/\Kp (λ_=>False) w4 wq) (λ_ ev _=>fl.length-(intOf ev).toNat)
    case atStart=>exact⟨0,rfl,Nat.zero_le _,by simp,Kp.refl _ _⟩
    case round=>
     obtain⟨e,rfl,he,rfl,KQ⟩:=hrel;have hbq:=KQ.at_ HZ.out.1 (λx=>x);have hoq:=KQ.owns HZ.out.2.1 (λ_ _ x=>x)
     have m0:wr.cell? ⟨mb,0,none⟩=some (.int .i64 A):=by rw[World.cell?,hbq];rfl
     have m1:wr.cell? ⟨mb,1,none⟩=some (.int .i64 KK):=by rw[World.cell?,hbq];rfl
     by_cases hel:e<fl.length
     ·have ajX:(e:Int)<(fl.length:Int):=by omega
      obtain⟨fe,hfe⟩:∃fe,fl[e]? =some fe:=⟨_,List.getElem?_eq_getElem hel⟩
      obtain⟨g2,cap2,hv2,_⟩:=World.ownsRow.form hoq (by omega);simp only[Value.slice.injEq]at hv2;obtain⟨rfl,-,rfl⟩:=hv2;obtain⟨q0,q1⟩:=lB ol fl e fe hfe;have a0:=(World.ownsRow.cellAt hoq (e*2) (by omega)).trans q0;have a1:=(World.ownsRow.cellAt hoq (e*2+1) (by omega)).trans q1;have hN:=HT.out e fe hfe;generalize ((ff != -2)&& !((fl.take e).any (· ==ff)))=okb at*;generalize ((GM ol fe.toNat:Nat):Int)=mk1 at*;generalize eG ol fe.toNat=st1 at*;clear q0 q1 hoq hbq
      cases t1:st1==A<;>cases t2:mk1==KK<;>rw[t1,t2]at hN<;>
      (have HN:=hid hN
       clear hN
       go_wp2_with fail
       go_quiet (fail)
       go_wp2
       go_roundw
       case rel=>exact⟨e+1,by go_num,by omega,by rw[<-HN.out];rfl,KQ.drewN _⟩
       case measure=>simp[intOf];omega)
     have hge:¬(e:Int)<(fl.length:Int):=by omega
     obtain rfl:e=fl.length:=by omega
     rw[List.take_length];have hst:=HX.out.1;have KF:=HZ.out.2.2.trans KQ;have hsz:=KF.size
     cases qk:(ff != -2)&& !(fl.any (· ==ff))with
     |false=>
      rw[qk]at hst;have HF:=hid (hst.trans (if_neg (by simp)));have HY:=hid (ae hoq KF);clear hst hoq hbq KF;go_wp2
      go_roundw
      case rel=>exact⟨k+1,by go_num,by omega,by rw[HF.out];exact HY.out.1,HY.out.2⟩
      case measure=>simp[intOf];omega
     |true=>?_
     rw[qk]at hst;have HF:=hid (hst.trans (if_pos rfl))
     have HMR:=hid (show tP ol ff=[.int .i64 A,.int .i64 KK]by
      have hne:(ff== -2)=false:=by
       have:=(Bool.and_eq_true _ _▸qk).1;simpa using this
      have kQ:=HA.out;unfold mvA at kQ;rw[hne]at kQ;simp only[Bool.false_eq_true,if_false]at kQ;have:=congrArg Array.toList kQ
      exact this)
     clear hst qk
     go_wp2_with (at_builtin;refine wpList_append_own (P:=prog) _ rfl (.tmp 74) (.tmp 76) 276 rfl w.heap.size 301 i0 (.agg #[.int .i64 0,.int .i64 0]) 2 16 underlying276 hi0 hz0 hz1 hz2 rfl (by decide) (.slice la fl.length lc) fl.length (eS ol fl) rfl (by exact hoq.alloc _) ⟨wr.heap.size,0,none⟩ 1 1 [.int .i64 A,.int .i64 KK] rfl rfl (by exact jT _ _ _ _) (by intro u hu;simp at hu;rcases hu with rfl|rfl<;>rfl) (by unfold maxLen;omega) (by omega) (by simp;omega) ?_)
     intro v' w9 o9 g9 _;have K9:Kp (λ_=>False) w w9:=(KF.alloc (.cells #[.int .i64 A,.int .i64 KK] 301)).grown (by exact g9) (λj hj hlt=>by have:=(hoq.lt j hj).1;omega);have HO:=hid (ae o9 K9);clear o9 g9 K9 hoq KF m0 m1 hbq;go_wp2
     go_roundw
     case rel=>
      refine⟨k+1,by go_num,by omega,?_,HO.out.2⟩;rw[HF.out,rM,HMR.out];have:=HO.out.1;simpa using this
     case measure=>simp[intOf];omega
   have af8:(0:Int)<(ks.length:Int):=by omega
   have HF:=hid (show yI ol m.s trg (k+1)=fl by rw[HST.out.1,qo,show(ks.length==0)=false by simpa using hks];rfl);have HX:=hid (ae ho2 YZ);clear HST h2 hF2 OJ ho2 YZ;go_wp2
   go_roundw
   case rel=>exact⟨k+1,by go_num,by omega,by rw[HF.out];exact HX.out.1,HX.out.2⟩
   case measure=>simp[intOf];omega
  have hge:¬(k:Int)<(l.length:Int):=by omega
  obtain rfl:k=l.length:=by omega
  have HR2:=hid (show Ch.find ol m.s trg=yI ol m.s trg l.length by unfold Ch.find yI;rw[hR.len]);clear hr ey iI;go_wp2;go_ret;rw[HR2.out];exact⟨_,rfl,ho,KW⟩
end
end Go.Proofs.YtnlbchmfcebeeaaGreat
