import Derived.Test.YtnlbchmfcebeeaaGreatTXa
set_option maxHeartbeats 12800000
set_option maxRecDepth 100000
namespace Go.Proofs.YtnlbchmfcebeeaaGreat
open Go.Proofs.Tryz Ch
open Go.RowKit
namespace Ch
def kI(L:List RN)(on:List Bool)(i:Nat):Nat:=(cE L (i:Int)).countP (eJ on)
def oK(L:List RN)(on:List Bool)(i:Nat):Bool:=
 if !eJ on i then decide (0<=(cS L i).parent)
 else if(cS L i).kind==5||(decide (0<=(cS L i).parent)&& !eJ on (cS L i).parent.toNat)then false
 else if(cS L i).kind==2 then kI L on i==1
 else if(cS L i).kind==3 then kI L on i==(cE L (i:Int)).length
 else true
def cG(L:List RN):List Nat:=(List.range L.length).filter λi=>(cS L i).kind==5
def zK(L:List RN)(t:ByteArray)(h:Nat)(k:Nat):Bool:=af t k==45||(cE L (cS L h).parent).any λj=>(cS L j).name==af t k
def zL(L:List RN)(t:ByteArray):Bool:=(cG L).length==t.size&&(List.range (cG L).length).all λk=>zK L t ((cG L).getD k 0) k
def nR(L:List RN)(a p tm:ByteArray)(x y z:Int):Bool:=
 match gf L a with
 |none=>false
 |some on=>(List.range L.length).all (oK L on)&&(zL L p&&pZ tm&&jU x&&jU y&&jU z)
theorem Xc{L:List RN}{on l:List Bool}(h:fJ L.length on l)(i:Nat):e_ (L.map RN.st) l (i:Int) true=kI L on i:=by
 unfold e_ pJ kI cE;rw[List.countP_filter,List.length_map];apply List.countP_congr;intro j hj
 have hj':j<L.length:=by simpa using hj
 unfold uS;rw[jh hj'];have e:has l (j:Int)=eJ on j:=(h.2.2 j).symm;rw[e]
 cases eJ on j<;>cases pW L (i:Int) j<;>simp
theorem Ke(l:List Nat)(p:Nat->Bool):l.countP p+l.countP (λj=>!p j)=l.length:=by
 induction l with
 |nil=>rfl
 |cons a l ih=>simp only[List.countP_cons,List.length_cons];cases p a<;>simp<;>omega
theorem TC{L:List RN}{on l:List Bool}(h:fJ L.length on l)(i:Nat):e_ (L.map RN.st) l (i:Int) false+kI L on i=(cE L (i:Int)).length:=by
 rw[<-Ke (cE L (i:Int)) (eJ on),Nat.add_comm];unfold kI
 congr 1
 unfold e_ pJ cE;rw[List.countP_filter,List.length_map];apply List.countP_congr;intro j hj
 have hj':j<L.length:=by simpa using hj
 unfold uS;rw[jh hj'];have e:has l (j:Int)=eJ on j:=(h.2.2 j).symm;rw[e]
 cases eJ on j<;>cases pW L (i:Int) j<;>simp
theorem QJ{L:List RN}{r:Rs}(hN:NR L r){on l:List Bool}(h:fJ L.length on l){i:Nat}(hi:i<L.length):fits (L.map RN.st) l (i:Int)=oK L on i:=by
 have hw:=hN.wf i _ (List.getElem?_eq_getElem hi);rw[<-cU (List.getElem?_eq_getElem hi)]at hw;unfold fits oK;rw[ym hi,wL hi];have e:has l (i:Int)=eJ on i:=(h.2.2 i).symm;rw[e,Xc h];have hoff:=TC h i;generalize cS L i=n at*
 have hp:has l n.parent=(decide (0<=n.parent)&&eJ on n.parent.toNat):=by
  by_cases c:0<=n.parent
  ·obtain⟨p,hp⟩:∃p:Nat,n.parent=p:=⟨n.parent.toNat,by omega⟩
   rw[hp];simp only[Int.toNat_natCast];have:has l (p:Int)=eJ on p:=(h.2.2 p).symm;rw[this];simp
  have:n.parent= -1:=by omega
  rw[this];rfl
 rw[hp]
 have hm:(n.parent != -1)=decide (0<=n.parent):=by
  by_cases c:0<=n.parent
  ·rw[decide_eq_true c];simp;omega
  rw[decide_eq_false c];simp;omega
 rw[hm]
 cases ho:eJ on i with
 |false=>simp
 |true=>?_
 simp only[Bool.not_true,Bool.false_eq_true,if_false,if_true]
 cases c1:decide (0<=n.parent)&& !eJ on n.parent.toNat with
 |true=>
  have:(decide (0<=n.parent)&& !(decide (0<=n.parent)&&eJ on n.parent.toNat))=true:=by
   simp at c1⊢;exact⟨c1.1,.inr c1.2⟩
  rw[this];simp
 |false=>?_
 have:(decide (0<=n.parent)&& !(decide (0<=n.parent)&&eJ on n.parent.toNat))=false:=by
  cases q1:decide (0<=n.parent)with
  |false=>rfl
  |true=>rw[q1]at c1;simpa using c1
 rw[this];simp only[Bool.false_eq_true,if_false,Bool.or_false]
 cases c5:n.kind==5 with
 |true=>
  have e5:n.kind=5:=by simpa using c5
  rw[e5];rfl
 |false=>?_
 simp only[Bool.false_eq_true,if_false]
 cases c2:n.kind==2 with
 |true=>simp only[if_true];rw[Bool.eq_iff_iff];simp;omega
 |false=>?_
 simp only[Bool.false_eq_true,if_false]
 cases c3:n.kind==3 with
 |true=>
  simp only[if_true];rw[Bool.eq_iff_iff];simp;omega
 |false=>simp
def nT(ss:List St)(a m:Nat):Nat:=(List.range' a m).countP (cX ss)
theorem uJ(ss:List St)(a m:Nat):nT ss a (m+1)=(if cX ss a then 1 else 0)+nT ss (a+1) m:=by
 unfold nT;rw[List.range'_succ,List.countP_cons];omega
theorem Xd(ss:List St)(t:ByteArray):∀(f k n:Nat) (l:List Int),
 (ur ss t f k n l=none/\∃j,k<=j/\j<k+f/\cX ss j=true/\(t.size<=n+nT ss k (j-k)\/gy ss (j:Int) (af t (n+nT ss k (j-k)))=false))\/
 (∃l',ur ss t f k n l=some (l',n+nT ss k f)/\∀j,k<=j->j<k+f->cX ss j=true->n+nT ss k (j-k)<t.size/\gy ss (j:Int) (af t (n+nT ss k (j-k)))=true):=by
 intro f
 induction f with
 |zero=>intro k n l;exact .inr ⟨l,by simp[ur,nT],λj h1 h2=>by omega⟩
 |succ f ih=>?_
 intro k n l;simp only[ur]
 cases hk:cX ss k with
 |false=>
  simp only[Bool.false_eq_true,if_false]
  have hc:∀j,k<j->nT ss k (j-k)=nT ss (k+1) (j-(k+1)):=by
   intro j hj;rw[show j-k=(j-(k+1))+1 by omega,uJ,hk];simp
  rcases ih (k+1) n l with⟨e,j,h1,h2,h3,h4⟩|⟨l',e,g⟩
  ·exact .inl ⟨e,j,by omega,by omega,h3,by rw[hc j (by omega)];exact h4⟩
  refine .inr ⟨l',by rw[e,uJ,hk];simp,λj h1 h2 h3=>?_⟩
  by_cases c:k=j
  ·subst c;rw[hk]at h3;cases h3
  rw[hc j (by omega)];exact g j (by omega) (by omega) h3
 |true=>?_
 simp only[if_true]
 have h0:nT ss k (k-k)=0:=by simp[nT]
 have hc:∀j,k<j->n+nT ss k (j-k)=(n+1)+nT ss (k+1) (j-(k+1)):=by
  intro j hj;rw[show j-k=(j-(k+1))+1 by omega,uJ,hk];simp;omega
 by_cases c:(decide (t.size<=n)|| !gy ss (k:Int) (af t n))=true
 ·rw[if_pos c]
  refine .inl ⟨rfl,k,Nat.le_refl _,by omega,hk,?_⟩;rw[h0,Nat.add_zero];simpa using c
 rw[if_neg c]
 have c':n<t.size/\gy ss (k:Int) (af t n)=true:=by simpa using c
 rcases ih (k+1) (n+1) (l.set k (af t n))with⟨e,j,h1,h2,h3,h4⟩|⟨l',e,g⟩
 ·exact .inl ⟨e,j,by omega,by omega,h3,by rw[hc j (by omega)];exact h4⟩
 refine .inr ⟨l',by rw[e,uJ,hk];simp;omega,λj h1 h2 h3=>?_⟩
 by_cases c2:k=j
 ·subst c2;rw[h0,Nat.add_zero];exact c'
 rw[hc j (by omega)];exact g j (by omega) (by omega) h3
theorem xj{L:List RN}{i:Nat}(hi:i<L.length):cX (L.map RN.st) i=((cS L i).kind==5):=by
 unfold cX;rw[List.getElem?_map,List.getElem?_eq_getElem hi,cU (List.getElem?_eq_getElem hi)];rfl
theorem TD(L:List RN):(cG L).length=nT (L.map RN.st) 0 L.length:=by
 unfold cG nT;rw[<-List.countP_eq_length_filter,List.range_eq_range'];apply List.countP_congr;intro i hi;rw[xj (by simp at hi;omega)]
theorem yC{L:List RN}{j:Nat}(hj:j<L.length)(h:cX (L.map RN.st) j=true):(cG L)[nT (L.map RN.st) 0 j]? =some j:=by
 unfold cG
 have e:List.range L.length=List.range j++(j::List.range' (j+1) (L.length-(j+1))):=by
  rw[List.range_eq_range',List.range_eq_range',show L.length=j+(L.length-j)by omega,<-List.range'_append_1,Nat.zero_add];rw[show j+(L.length-j)-(j+1)=L.length-j-1 by omega];rw[show L.length-j=(L.length-j-1)+1 by omega,List.range'_succ];simp
 rw[e,List.filter_append,List.filter_cons];rw[xj hj]at h;rw[if_pos h]
 have hl:(List.filter (λi=>(cS L i).kind==5) (List.range j)).length=nT (L.map RN.st) 0 j:=by
  unfold nT;rw[<-List.countP_eq_length_filter,List.range_eq_range'];apply List.countP_congr;intro i hi;rw[xj (by simp at hi;omega)]
 rw[<-hl,List.getElem?_append_right (Nat.le_refl _),Nat.sub_self];rfl
theorem QK{L:List RN}(hu:Uniq L){j:Nat}(hj:j<L.length)(c:Int):gy (L.map RN.st) (j:Int) c=(c==45||(cE L (cS L j).parent).any λi=>(cS L i).name==c):=by
 unfold gy;rw[wL hj]
 cases hc:c==45 with
 |true=>simp
 |false=>?_
 simp only[Bool.false_eq_true,if_false,Bool.false_or]
 rcases jl L c with⟨_,e2,hne⟩|⟨i,hi,_,e2,hnm⟩
 ·rw[e2]
  have h1:aB (L.map RN.st) (-2) (cS L j).parent=false:=rfl;rw[h1]
  symm
  rw[List.any_eq_false];intro i hi;unfold cE at hi;rw[List.mem_filter]at hi;have:=hne i (by simpa using hi.1);simpa using this
 rw[e2,jh hi];rw[Bool.eq_iff_iff,List.any_eq_true]
 constructor
 ·intro h
  exact⟨i,by unfold cE;rw[List.mem_filter];exact⟨by simpa using hi,h⟩,by simpa using hnm⟩
 rintro⟨i',hi',hn'⟩;unfold cE at hi';rw[List.mem_filter]at hi'
 have ae3:(cS L i').name=c:=by simpa using hn'
 have:=hu i' i (by simpa using hi'.1) hi (by rw[ae3,hnm]);subst this;exact hi'.2
theorem QL{L:List RN}{j:Nat}(hj:j<L.length)(h:cX (L.map RN.st) j=true):nT (L.map RN.st) 0 j<(cG L).length:=
 (List.getElem?_eq_some_iff.1 (yC hj h)).1
theorem adk{L:List RN}(hu:Uniq L)(h16:L.length<=16)(t:ByteArray):(bD (L.map RN.st) t).2=zL L t:=by
 unfold bD zL;rw[List.length_map,show min L.length 16=L.length by omega]
 rcases Xd (L.map RN.st) t L.length 0 0 (cR (L.map RN.st))with⟨e,j,_,h2,h3,h4⟩|⟨l',e,g⟩
 ·rw[e]
  simp only
  symm
  rw[Nat.zero_add]at h2 h4;rw[Nat.sub_zero]at h4;have hlt:=QL h2 h3
  by_cases c:(cG L).length=t.size
  ·have hr:((cG L).length==t.size)=true:=by simpa using c
   rw[hr,Bool.true_and,List.all_eq_false];refine⟨nT (L.map RN.st) 0 j,by simpa using hlt,?_⟩
   rcases h4 with h4|h4
   ·omega
   rw[QK hu h2]at h4;unfold zK;rw[List.getD_eq_getElem?_getD,yC h2 h3];simpa using h4
  have hr:((cG L).length==t.size)=false:=by simpa using c
  rw[hr,Bool.false_and]
 rw[e];simp only[Nat.zero_add];rw[<-TD]
 by_cases c:(cG L).length=t.size
 ·have h1:(((cG L).length:Int)!=(t.size:Int))=false:=by simp;omega
  have hr:((cG L).length==t.size)=true:=by simpa using c
  rw[h1,hr,Bool.true_and];simp only[Bool.false_eq_true,if_false]
  symm
  rw[List.all_eq_true];intro k hk
  have hk':k<(cG L).length:=by simpa using hk
  have hg:(cG L)[k]? =some (cG L)[k]:=List.getElem?_eq_getElem hk';have hm:(cG L)[k]∈cG L:=List.getElem_mem hk';generalize (cG L)[k]=j at hm hg;have hm2:=hm;unfold cG at hm2;rw[List.mem_filter]at hm2
  have hjl:j<L.length:=by simpa using hm2.1
  have hjh:cX (L.map RN.st) j=true:=by rw[xj hjl];exact hm2.2
  have hr2:=yC hjl hjh
  have hnd:(cG L).Nodup:=by unfold cG;exact List.Pairwise.filter _ List.nodup_range
  have hkk:nT (L.map RN.st) 0 j=k:=(List.getElem?_inj (QL hjl hjh) hnd).1 (hr2.trans hg.symm);have:=(g j (Nat.zero_le _) (by omega) hjh).2;rw[Nat.sub_zero,hkk,Nat.zero_add,QK hu hjl]at this;unfold zK;rw[List.getD_eq_getElem?_getD,hg];exact this
 have h1:(((cG L).length:Int)!=(t.size:Int))=true:=by simp;omega
 have hr:((cG L).length==t.size)=false:=by simpa using c
 rw[h1,hr,Bool.false_and];simp
theorem Xe{L:List RN}{r:Rs}(hN:NR L r)(hu:Uniq L)(h16:L.length<=16)(a p tm:ByteArray)(x y z:Int):(take (L.map RN.st) a p tm x y z).1=nR L a p tm x y z:=by
 have hA:(bT (L.map RN.st) a).2=match gf L a with|none=>false|some on=>(List.range L.length).all (oK L on):=by
  unfold bT lG gf
  rcases vx (t:=a) h16 a.size 0 (-1) _ _ (Ql L.length) (by omega)with⟨e1,e2⟩|⟨on,l,e1,e2,hs⟩
  ·rw[e1,e2]
  rw[e1,e2];simp only
  have:allFit (L.map RN.st) l (L.map RN.st).length=(List.range L.length).all (oK L on):=by
   unfold allFit;rw[List.length_map,Bool.eq_iff_iff,List.all_eq_true,List.all_eq_true]
   constructor
   ·intro h i hi;rw[<-QJ hN hs (by simpa using hi)];exact h i hi
   intro h i hi;rw[QJ hN hs (by simpa using hi)];exact h i hi
  rw[this]
  cases(List.range L.length).all (oK L on)<;>rfl
 unfold take nR;rw[hA,adk hu h16,Qk]
 cases gf L a with
 |none=>rfl
 |some on=>?_
 have key:∀(b1 b2 b3 b4 b5 b6:Bool) (s1 s2:Sd),(if b1=true then if b2=true then if(b3&&b4&&b5&&b6)=true then(true,s1)else(false,s2)else(false,s2)else(false,s2)).1=(b1&&(b2&&b3&&b4&&b5&&b6)):=by
  intro b1 b2 b3 b4 b5 b6 s1 s2
  cases b1<;>cases b2<;>cases b3<;>cases b4<;>cases b5<;>cases b6<;>rfl
 exact key _ _ _ _ _ _ _ _
theorem Ox{L:List RN}{b:Int}{k:Nat}(hk:k<L.length)(h:((cS L k).name==b)=true)(hb:∀j,j<k->((cS L j).name==b)=false):eV L b=k:=by
 unfold eV
 have:(List.range L.length).find? (λi=>(cS L i).name==b)=some k:=by
  rw[List.find?_range_eq_some];exact⟨h,by simpa using hk,λj hj=>by simp[hb j hj]⟩
 rw[this]
theorem Kf{L:List RN}{b:Int}(hb:∀j,j<L.length->((cS L j).name==b)=false):eV L b= -1:=by
 unfold eV
 have:(List.range L.length).find? (λi=>(cS L i).name==b)=none:=by
  rw[List.find?_eq_none];intro j hj;simp[hb j (by simpa using hj)]
 rw[this]
def rW(L:List RN)(k:Nat):List Nat:=(List.range k).filter λi=>(cS L i).kind==5
theorem Oy(L:List RN)(k:Nat):rW L (k+1)=if(cS L k).kind==5 then rW L k++[k]else rW L k:=by
 unfold rW;rw[List.range_succ,List.filter_append,List.filter_cons];split<;>simp
theorem TE(L:List RN)(k:Nat):(rW L k).length<=k:=by
 unfold rW;have:=List.length_filter_le (λi=>(cS L i).kind==5) (List.range k);simpa using this
end Ch
section
variable (w:World) (B cb:Nat)
theorem lz(v:Int):
 Calls prog 200 #[.int .i64 v] w λx w'=>x= .returned (.bool (jU v))/\w'=w:=by
 unfold jU
 cases q1:decide (-99<=v)<;>cases q2:decide (v<=99)<;>
  (go_enter func200,ntmps200
   go_wp2;go_ret
   exact⟨rfl,rfl⟩)
theorem vG(l:List NV)(v:Value)(b:Int)(hF:iG w B cb l v)(hl:l.length<=1000):
 Calls prog 236 #[.pointer (some ⟨cb,0,none⟩),.int .u8 b] w λx w'=>x= .returned (.int .i64 (eV (Ch.mk l) b))/\w'=w:=by
 obtain⟨ao,cap,rfl⟩:=hF.2.1.len;have zc:=hF.cell;have J_:=cP l;have HF:=hid hF;clear hF
 go_enter func236,ntmps236
 go_wp2_with fail
 go_loop [5] (λi=>∃k:Nat,i= .int .i64 k/\k<=l.length/\Hid (∀j,j<k->((cS (Ch.mk l) j).name==b)=false)) (λi=>l.length-(intOf i).toNat)
 case atStart=>exact⟨0,rfl,Nat.zero_le _,hid (λj h=>absurd h (by omega))⟩
 case round=>
  obtain⟨k,rfl,hk,HB⟩:=hrel
  by_cases hlt:k<l.length
  ·have hlt':(k:Int)<(l.length:Int):=by omega
   obtain⟨x,hx⟩:∃x,l[k]? =some x:=⟨_,List.getElem?_eq_getElem hlt⟩
   obtain⟨g,cap',hv,_,hcell,_⟩:=HF.out.2.1.form hx;simp only[Value.slice.injEq]at hv;obtain⟨rfl,-,rfl⟩:=hv;have z0:w.cell? ⟨g,k*7,none⟩=some (.int .u8 x.n.name):=hcell 0 (by omega);have hrn:=iL hx;clear hcell
   cases q:x.n.name==b with
   |true=>
    have hR:=hid (Ox (L:=Ch.mk l) (by omega) (by rw[hrn];exact q) HB.out);go_wp2;go_ret;rw[hR.out];exact⟨rfl,rfl⟩
   |false=>?_
   have HB2:=hid (show∀j,j<k+1->((cS (Ch.mk l) j).name==b)=false from λj hj=>by
    rcases Nat.lt_or_eq_of_le (Nat.le_of_lt_succ hj)with h|h
    ·exact HB.out j h
    subst h;rw[hrn];exact q)
   go_wp2
   go_round
   case rel=>exact⟨k+1,by go_num,by omega,HB2⟩
   case measure=>simp[intOf];omega
  have hge:¬(k:Int)<(l.length:Int):=by omega
  obtain rfl:k=l.length:=by omega
  have hR:=hid (Kf (L:=Ch.mk l) (b:=b) (by rw[J_];exact HB.out));go_wp2;go_ret;rw[hR.out];exact⟨rfl,rfl⟩
theorem uK(l:List NV)(v:Value)(hF:iG w B cb l v)(hl:l.length<=1000):
 Calls prog 201 #[.pointer (some ⟨cb,0,none⟩)] w λx w'=>∃u,x= .returned u/\w'.ownsRow w.heap.size 3 1 u (cG (Ch.mk l)).length (aJ (im (cG (Ch.mk l))))/\Kp (λ_=>False) w w':=by
 obtain⟨i0,hi,hz0,hz1,hz2⟩:=info_parts lI;obtain⟨ao,cap,rfl⟩:=hF.2.1.len
 go_enter func201,ntmps201
 go_wp2_with fail
 go_loopw [3,4] (λfv j wr=>∃k:Nat,j= .int .i64 k/\k<=l.length/\wr.ownsRow w.heap.size 3 1 fv (rW (Ch.mk l) k).length (aJ (im (rW (Ch.mk l) k)))/\Kp (λ_=>False) w wr) (λ_ j _=>l.length-(intOf j).toNat)
 case atStart=>exact⟨0,rfl,Nat.zero_le _,World.ownsRow_nil _ _ _ _,Kp.refl _ _⟩
 case round=>
  obtain⟨k,rfl,hk,ho,KW⟩:=hrel;have ey:=hF.ai KW;have zc:=ey.cell;have hkl:=TE (Ch.mk l) k
  by_cases hlt:k<l.length
  ·have hlt':(k:Int)<(l.length:Int):=by omega
   obtain⟨x,hx⟩:∃x,l[k]? =some x:=⟨_,List.getElem?_eq_getElem hlt⟩
   obtain⟨g,cap',hv,hBg,hcell,hfr⟩:=ey.2.1.form hx;simp only[Value.slice.injEq]at hv;obtain⟨rfl,-,rfl⟩:=hv;have z1:wr.cell? ⟨g,k*7+1,none⟩=some (.int .i64 x.n.kind):=hcell 1 (by omega);have lf:=Oy (Ch.mk l) k;rw[iL hx]at lf;clear ey hcell hfr
   cases q1:x.n.kind==5 with
   |false=>
    rw[q1]at lf;have HK:=hid lf;clear lf;go_wp2
    go_roundw
    case rel=>exact⟨k+1,by go_num,by omega,by rw[HK.out];exact ho,KW⟩
    case measure=>simp[intOf];omega
   |true=>?_
   rw[q1]at lf;have HK:=hid (lf.trans (if_pos rfl));have hsz:=KW.size;clear lf
   go_wp2_with (at_builtin;refine wpList_append_own (P:=prog) _ rfl (.tmp 23) (.tmp 25) 38 rfl w.heap.size 3 i0 (.int .i64 0) 1 8 underlying38 hi hz0 hz1 hz2 rfl (by decide) u3 (rW (Ch.mk l) k).length (aJ (im (rW (Ch.mk l) k))) rfl (by exact ho.alloc _) ⟨wr.heap.size,0,none⟩ 1 1 [.int .i64 k] rfl rfl (by exact eO _ _ _) (by intro u hu;simp at hu;subst hu;rfl) (by unfold maxLen;omega) (by omega) (by simp;omega) ?_)
   intro v' w9 o9 g9 _;have K9:Kp (λ_=>False) w w9:=(KW.alloc (.cells #[.int .i64 k] 3)).grown (by exact g9) (λj hj hlt=>by have:=(ho.lt j hj).1;omega);have HO:=hid (ae o9 K9);clear o9 g9 K9 ho KW zc z1;go_wp2
   go_roundw
   case rel=>
    refine⟨k+1,by go_num,by omega,?_,HO.out.2⟩;rw[HK.out,Fk];have:=HO.out.1;simpa[aJ]using this
   case measure=>simp[intOf];omega
  have hge:¬(k:Int)<(l.length:Int):=by omega
  obtain rfl:k=l.length:=by omega
  have HR:=hid (show cG (Ch.mk l)=rW (Ch.mk l) l.length by unfold cG rW;rw[cP]);clear ey;go_wp2;go_ret;rw[HR.out];exact⟨_,rfl,ho,KW⟩
end
namespace Ch
theorem Xf{t:ByteArray}{k:Nat}(hk:k<t.size)(h:mA t k=false):pZ t=false:=by
 unfold pZ
 have:(List.range t.size).all (mA t)=false:=by
  rw[List.all_eq_false];exact⟨k,by simpa using hk,by simp[h]⟩
 rw[this];simp
theorem TF{t:ByteArray}(h1:(decide (16<t.size)||t.size % 2==1)=false)(h:∀j,j<t.size->mA t j=true):pZ t=true:=by
 unfold pZ;rw[h1];simp only[Bool.not_false,Bool.true_and,List.all_eq_true,List.mem_range];exact h
theorem Fq{t:ByteArray}(h1:(decide (16<t.size)||t.size % 2==1)=true):pZ t=false:=by
 unfold pZ;rw[h1];rfl
end Ch
section
variable (w:World)
theorem TG(t:ByteArray)(ht:t.size<=9223372036854775807):
 Calls prog 199 #[.string t] w λx w'=>x= .returned (.bool (pZ t))/\w'=w:=by
 have hm:((t.size:Int).tmod 2)=((t.size % 2:Nat):Int):=(Int.ofNat_tmod t.size 2).symm
 by_cases h16:16<t.size
 ·have xS:(16:Int)<(t.size:Int):=by omega
  have HR:=hid (Fq (t:=t) (by simp[h16]))
  go_enter func199,ntmps199
  go_wp2;go_ret;rw[HR.out];exact⟨rfl,rfl⟩
 have xS:¬(16:Int)<(t.size:Int):=by omega
 rcases Nat.mod_two_eq_zero_or_one t.size with hp|hp
 ·rw[hp]at hm
  have H1:=hid (show(decide (16<t.size)||t.size % 2==1)=false by simp[h16,hp])
  go_enter func199,ntmps199
  go_wp2_with fail
  go_loop [3] (λi=>∃k:Nat,i= .int .i64 k/\k<=t.size/\Hid (∀j,j<k->mA t j=true)) (λi=>t.size-(intOf i).toNat)
  case atStart=>exact⟨0,rfl,Nat.zero_le _,hid (λj h=>absurd h (by omega))⟩
  case round=>
   obtain⟨k,rfl,hk,HB⟩:=hrel
   by_cases hlt:k<t.size
   ·have hlt':(k:Int)<(t.size:Int):=by omega
    have hpk:af t k=((t[k]'hlt).toNat:Int):=by simp[af,hlt]
    have hmk:((k:Int).tmod 2)=((k % 2:Nat):Int):=(Int.ofNat_tmod k 2).symm;have E1:=hid (oH w ((t[k]'hlt).toNat:Int) 97 122);have E2:=hid (oH w ((t[k]'hlt).toNat:Int) 49 57);have HK:=hid (show mA t k=if k % 2==0 then lX ((t[k]'hlt).toNat:Int) 97 122 else lX ((t[k]'hlt).toNat:Int) 49 57 by unfold mA;rw[hpk];rfl);have HN:=hid (λh:mA t k=false=>Xf hlt h)
    have HY:=hid (λ(h:mA t k=true)=>show∀j,j<k+1->mA t j=true from λj hj=>by
     rcases Nat.lt_or_eq_of_le (Nat.le_of_lt_succ hj)with h'|h'
     ·exact HB.out j h'
     subst h';exact h)
    clear hpk;generalize lX ((t[k]'hlt).toNat:Int) 97 122=e1 at E1 HK;generalize lX ((t[k]'hlt).toNat:Int) 49 57=e2 at E2 HK
    rcases Nat.mod_two_eq_zero_or_one k with hq|hq<;>rw[hq]at hmk<;>cases e1<;>cases e2<;>
    (go_wp2_with fail
     refine bH E1 ?_;rintro x w1 ⟨rfl,rfl⟩
     go_wp2_with fail
     refine bH E2 ?_;rintro x w1 ⟨rfl,rfl⟩;go_wp2
     first
     |(go_ret
       rw[HN.out (by rw[HK.out,hq];rfl)]
       exact⟨rfl,rfl⟩)
     |(go_round
       case rel=>exact⟨k+1,by go_num,by omega,hid (HY.out (by rw[HK.out,hq];rfl))⟩
       case measure=>simp[intOf];omega))
   have hge:¬(k:Int)<(t.size:Int):=by omega
   obtain rfl:k=t.size:=by omega
   have HR:=hid (TF H1.out HB.out);go_wp2;go_ret;rw[HR.out];exact⟨rfl,rfl⟩
 rw[hp]at hm;have HR:=hid (Fq (t:=t) (by simp[hp]))
 go_enter func199,ntmps199
 go_wp2;go_ret;rw[HR.out];exact⟨rfl,rfl⟩
end
namespace Ch
theorem Cn{L:List RN}{i:Int}{j:Nat}(h:j∈cE L i):j<L.length:=by
 unfold cE at h;rw[List.mem_filter]at h;simpa using h.1
theorem jB(L:List RN)(i:Int):(cE L i).length<=L.length:=by
 unfold cE;have:=List.length_filter_le (pW L i) (List.range L.length);simpa using this
theorem yD{l:List Nat}{p:Nat->Bool}{k j:Nat}(h:l[k]? =some j):(l.take (k+1)).countP p=(l.take k).countP p+if p j then 1 else 0:=by
 rw[List.take_add_one,h,List.countP_append];simp[List.countP_cons]
end Ch
section
variable (w:World) (B cb:Nat)
theorem Co(l:List NV)(v:Value)(i g:Nat)(on:List Bool)(hF:iG w B cb l v)(hl:l.length<=1000)(hon:iH w g on)(hol:on.length=l.length):
 Calls prog 237 #[.pointer (some ⟨cb,0,none⟩),.int .i64 i,.slice (some ⟨g,0,none⟩) l.length l.length] w λx w'=>x= .returned (.int .i64 (kI (Ch.mk l) on i))/\Kp (λ_=>False) w w':=by
 have E:=hid (iE w B cb l v (i:Int) hF hl);have hkl:=jB (Ch.mk l) (i:Int);rw[cP]at hkl
 have hlt:=λj (h:j∈cE (Ch.mk l) (i:Int))=>Cn h
 rw[cP]at hlt;unfold kI;generalize cE (Ch.mk l) (i:Int)=ks at E hkl hlt⊢;have HF:=hid hF;have HL:=hid hlt;clear hF hlt
 go_enter func237,ntmps237
 go_wp2_with fail
 refine hm E ?_;rintro x w1 ⟨u,rfl,ho,K1⟩;have sC:iH w1 g on:=K1.at_ hon (λx=>x);have HO:=hid (ae ho (ae sC K1));clear ho sC K1 hon
 obtain⟨a0,cap,rfl⟩:∃a0 cap,u= .slice a0 ks.length cap:=by
  rcases Nat.eq_zero_or_pos ks.length with h|h
  ·rcases HO.out.1.2 with⟨h1,h0⟩|⟨g,cap,cur,hv,_⟩
   ·exact⟨none,0,by rw[h1,h]⟩
   exact⟨_,_,hv⟩
  obtain⟨g,cap,hv,_⟩:=World.ownsRow.form HO.out.1 h;exact⟨_,_,hv⟩
 go_wp2_with fail
 go_loop [7,9] (λn j=>∃k:Nat,j= .int .i64 k/\k<=ks.length/\n= .int .i64 ((ks.take k).countP (eJ on):Nat)) (λ_ j=>ks.length-(intOf j).toNat)
 case atStart=>exact⟨0,rfl,Nat.zero_le _,rfl⟩
 case round=>
  obtain⟨k,rfl,hk,rfl⟩:=hrel;have hcp:(ks.take k).countP (eJ on)<=k:=Nat.le_trans List.countP_le_length (by simp;omega)
  by_cases hlt:k<ks.length
  ·have hlt':(k:Int)<(ks.length:Int):=by omega
   obtain⟨j,hj⟩:∃j,ks[k]? =some j:=⟨_,List.getElem?_eq_getElem hlt⟩
   have hjl:=HL.out j (List.mem_of_getElem? hj);obtain⟨g2,cap2,hv,_⟩:=World.ownsRow.form HO.out.1 (by omega);simp only[Value.slice.injEq]at hv;obtain⟨rfl,-,rfl⟩:=hv
   have z1:w1.cell? ⟨g2,k,none⟩=some (.int .i64 j):=by
    rw[World.ownsRow.cellAt HO.out.1 k (by omega)];simp[aJ,im,hj]
   have z2:=HO.out.2.1.cell (k:=j) (by omega);have HC:=hid (yD (p:=eJ on) hj)
   have AK:(j:Int)<(l.length:Int):=by omega
   cases q:eJ on j<;>rw[q]at z2 HC<;>
   (go_wp2
    go_round
    case rel=>exact⟨k+1,by go_num,by omega,by rw[HC.out];go_num⟩
    case measure=>simp[intOf];omega)
  have hge:¬(k:Int)<(ks.length:Int):=by omega
  obtain rfl:k=ks.length:=by omega
  go_wp2;go_ret;exact⟨rfl,HO.out.2.2⟩
end
namespace Ch
theorem Xg{L:List RN}{on:List Bool}{i:Nat}{n:RN}(h:cS L i=n):oK L on i=if !eJ on i then decide (0<=n.parent)
 else if n.kind==5||(decide (0<=n.parent)&& !eJ on n.parent.toNat)then false
 else if n.kind==2 then kI L on i==1
 else if n.kind==3 then kI L on i==(cE L (i:Int)).length
 else true:=by unfold oK;rw[h]
theorem Fs(L:List RN)(on:List Bool)(i:Nat):kI L on i<=L.length:=by
 unfold kI;exact Nat.le_trans List.countP_le_length (jB L i)
end Ch
section
variable (w:World) (B cb:Nat)
theorem TH(l:List NV)(v:Value)(i g:Nat)(on:List Bool)(hF:iG w B cb l v)(hl:l.length<=1000)(hon:iH w g on)(hol:on.length=l.length)(hi:i<l.length)
 (hpw:∀x,l[i]? =some x-> -1<=x.n.parent/\x.n.parent<i):
 Calls prog 197 #[.pointer (some ⟨cb,0,none⟩),.int .i64 i,.slice (some ⟨g,0,none⟩) l.length l.length] w λx w'=>x= .returned (.bool (oK (Ch.mk l) on i))/\Kp (λ_=>False) w w':=by
 obtain⟨ao,cap,rfl⟩:=hF.2.1.len;have zc:=hF.cell
 have hlt':(i:Int)<(l.length:Int):=by omega
 obtain⟨x,hx⟩:∃x,l[i]? =some x:=⟨_,List.getElem?_eq_getElem hi⟩
 obtain⟨g1,cap',hv,hBg,hcell,hfr⟩:=hF.2.1.form hx;simp only[Value.slice.injEq]at hv;obtain⟨rfl,-,rfl⟩:=hv;have hxm:=List.mem_of_getElem? hx;have z0:w.cell? ⟨g1,i*7,none⟩=some (.int .u8 x.n.name):=hcell 0 (by omega);have z1:w.cell? ⟨g1,i*7+1,none⟩=some (.int .i64 x.n.kind):=hcell 1 (by omega);have z2:w.cell? ⟨g1,i*7+2,none⟩=some (.int .i64 x.n.parent):=hcell 2 (by omega);have z3:w.cell? ⟨g1,i*7+3,none⟩=some (.int .i64 x.n.pos):=hcell 3 (by omega);have z4:w.cell? ⟨g1,i*7+4,none⟩=some x.ev:=hcell 4 (by omega);have z5:w.cell? ⟨g1,i*7+5,none⟩=some x.lv:=hcell 5 (by omega);have z6:w.cell? ⟨g1,i*7+6,none⟩=some x.tv:=hcell 6 (by omega);obtain⟨ea,ec,hev⟩:=aF (hF.2.1.rR x hxm);obtain⟨la,lc,hlv⟩:=aF (hF.2.1.rD x hxm);obtain⟨ta,tc,Tv⟩:=aF (hF.2.1.iX x hxm);rw[hev]at z4;rw[hlv]at z5;rw[Tv]at z6;have hpx:=hpw x hx;have hR:=Xg (on:=on) (iL hx);have HQ:=hid (ae hF (ae hon hR));clear hF hon hcell hfr hR;have K3:Kp (λ_=>False) w (w.alloc (.cells #[.int .u8 x.n.name,.int .i64 x.n.kind,.int .i64 x.n.parent,.int .i64 x.n.pos,.slice ea x.n.enter.length ec,.slice la x.n.leave.length lc,.slice ta x.n.trans.length tc] 223)):=(Kp.refl _ _).alloc _;have hb3:=heap_alloc_new w (.cells #[.int .u8 x.n.name,.int .i64 x.n.kind,.int .i64 x.n.parent,.int .i64 x.n.pos,.slice ea x.n.enter.length ec,.slice la x.n.leave.length lc,.slice ta x.n.trans.length tc] 223)
 go_enter func197,ntmps197
 go_upto_region 2 with(fail)
 generalize w.alloc (.cells #[.int .u8 x.n.name,.int .i64 x.n.kind,.int .i64 x.n.parent,.int .i64 x.n.pos,.slice ea x.n.enter.length ec,.slice la x.n.leave.length lc,.slice ta x.n.trans.length tc] 223)=w3 at*;generalize w.heap.size=nb at*;have Ow:=HQ.out.1.ai K3;have zM:iH w3 g on:=K3.at_ HQ.out.2.1 (λx=>x);have hR:=HQ.out.2.2;have DE:=zM.cell (k:=i) (by omega)
 have c1:w3.cell? ⟨nb,1,none⟩=some (.int .i64 x.n.kind):=by rw[World.cell?,hb3];rfl
 have c2:w3.cell? ⟨nb,2,none⟩=some (.int .i64 x.n.parent):=by rw[World.cell?,hb3];rfl
 clear z0 z1 z2 z3 z4 z5 z6 zc hev hlv Tv HQ
 cases qo:eJ on i with
 |false=>
  rw[qo]at hR DE;simp only[Bool.not_false,if_true]at hR;have HR:=hid hR;clear hR Ow zM hb3
  by_cases c:0<=x.n.parent
  ·go_wp2
   go_ret;rw[HR.out,decide_eq_true c];exact⟨rfl,K3⟩
  go_wp2;go_ret;rw[HR.out,decide_eq_false (by omega)];exact⟨rfl,K3⟩
 |true=>?_
 rw[qo]at hR DE;simp only[Bool.not_true,Bool.false_eq_true,if_false]at hR
 cases q5:x.n.kind==5 with
 |true=>
  rw[q5]at hR;simp only[Bool.true_or,if_true]at hR;have HR:=hid hR;clear hR Ow zM hb3;go_wp2;go_ret;rw[HR.out];exact⟨rfl,K3⟩
 |false=>?_
 rw[q5]at hR
 by_cases c:0<=x.n.parent
 ·obtain⟨p,hp⟩:∃p:Nat,x.n.parent=p:=⟨x.n.parent.toNat,by omega⟩
  have hpl:(p:Int)<(l.length:Int):=by omega
  have zp:=zM.cell (k:=p) (by omega);rw[hp]at hR c2
  have hp0:(0:Int)<=(p:Int):=by omega
  rw[decide_eq_true hp0,Int.toNat_natCast]at hR
  cases qp:eJ on p with
  |false=>
   rw[qp]at hR zp;simp only[Bool.not_false,Bool.and_self,Bool.or_true,if_true]at hR;have HR:=hid hR;clear hR Ow zM hb3;go_wp2;go_ret;rw[HR.out];exact⟨rfl,K3⟩
  |true=>?_
  rw[qp]at hR zp;simp only[Bool.not_true,Bool.and_false,Bool.or_self,Bool.false_eq_true,if_false]at hR;have E1:=hid (Co w3 B cb l _ i g on Ow hl zM hol);have HR:=hid (ae hR (ae Ow hb3));clear hR Ow zM hb3
  go_wp2_with fail
  refine bH E1 ?_;rintro y w4 ⟨rfl,K4⟩;have K34:=K3.trans K4;have Kd:=HR.out.2.1.ai K4;have hb4:=K4.at_ HR.out.2.2 (λx=>x);have E2:=hid (iE w4 B cb l _ (i:Int) Kd hl);have hok:=Fs (Ch.mk l) on i;have hkl:=jB (Ch.mk l) (i:Int);rw[cP]at hok hkl;have HR2:=hid HR.out.1;clear HR E1 Kd c1 c2 DE K3 K4;generalize kI (Ch.mk l) on i=kn at*;generalize cE (Ch.mk l) (i:Int)=ks at*
  go_wp2_with fail
  refine bH E2 ?_;rintro y w5 ⟨u,rfl,ho,K5⟩;obtain⟨ua,uc,rfl⟩:=aF ho;have hb5:=K5.at_ hb4 (λx=>x)
  have c1:w5.cell? ⟨nb,1,none⟩=some (.int .i64 x.n.kind):=by rw[World.cell?,hb5];rfl
  have K:=K34.trans K5;clear hb4 hb5 ho E2 K34 K5
  cases q2:x.n.kind==2 with
  |true=>
   rw[q2]at HR2
   have e2:x.n.kind=2:=by simpa using q2
   rw[e2]at c1
   by_cases c1':kn=1
   ·subst c1'
    go_wp2;go_ret;rw[HR2.out];exact⟨rfl,K⟩
   have c2':((kn:Int)==1)=false:=by simp;omega
   go_wp2;go_ret;rw[HR2.out];refine⟨?_,K⟩
   have:(kn==1)=false:=by simpa using c1'
   simp[this]
  |false=>?_
  rw[q2]at HR2
  cases q3:x.n.kind==3 with
  |true=>
   rw[q3]at HR2
   have e3:x.n.kind=3:=by simpa using q3
   rw[e3]at c1
   by_cases c1':kn=ks.length
   ·subst c1'
    go_wp2;go_ret;rw[HR2.out];exact⟨by simp,K⟩
   have c2':((kn:Int)==(ks.length:Int))=false:=by simp;omega
   go_wp2;go_ret;rw[HR2.out];refine⟨?_,K⟩
   have:(kn==ks.length)=false:=by simpa using c1'
   simp[this]
  |false=>?_
  rw[q3]at HR2;go_wp2;go_ret;rw[HR2.out];exact⟨by simp,K⟩
 rw[decide_eq_false c]at hR;simp only[Bool.false_and,Bool.or_self,Bool.false_eq_true,if_false]at hR
 have hp1:x.n.parent<0:=by omega
 have E1:=hid (Co w3 B cb l _ i g on Ow hl zM hol);have HR:=hid (ae hR (ae Ow hb3));clear hR Ow zM hb3
 go_wp2_with fail
 refine bH E1 ?_;rintro y w4 ⟨rfl,K4⟩;have K34:=K3.trans K4;have Kd:=HR.out.2.1.ai K4;have hb4:=K4.at_ HR.out.2.2 (λx=>x);have E2:=hid (iE w4 B cb l _ (i:Int) Kd hl);have hok:=Fs (Ch.mk l) on i;have hkl:=jB (Ch.mk l) (i:Int);rw[cP]at hok hkl;have HR2:=hid HR.out.1;clear HR E1 Kd c1 c2 DE K3 K4;generalize kI (Ch.mk l) on i=kn at*;generalize cE (Ch.mk l) (i:Int)=ks at*
 go_wp2_with fail
 refine bH E2 ?_;rintro y w5 ⟨u,rfl,ho,K5⟩;obtain⟨ua,uc,rfl⟩:=aF ho;have hb5:=K5.at_ hb4 (λx=>x)
 have c1:w5.cell? ⟨nb,1,none⟩=some (.int .i64 x.n.kind):=by rw[World.cell?,hb5];rfl
 have K:=K34.trans K5;clear hb4 hb5 ho E2 K34 K5
 cases q2:x.n.kind==2 with
 |true=>
  rw[q2]at HR2
  have e2:x.n.kind=2:=by simpa using q2
  rw[e2]at c1
  by_cases c1':kn=1
  ·subst c1'
   go_wp2;go_ret;rw[HR2.out];exact⟨rfl,K⟩
  have c2':((kn:Int)==1)=false:=by simp;omega
  go_wp2;go_ret;rw[HR2.out];refine⟨?_,K⟩
  have:(kn==1)=false:=by simpa using c1'
  simp[this]
 |false=>?_
 rw[q2]at HR2
 cases q3:x.n.kind==3 with
 |true=>
  rw[q3]at HR2
  have e3:x.n.kind=3:=by simpa using q3
  rw[e3]at c1
  by_cases c1':kn=ks.length
  ·subst c1'
   go_wp2;go_ret;rw[HR2.out];exact⟨by simp,K⟩
  have c2':((kn:Int)==(ks.length:Int))=false:=by simp;omega
  go_wp2;go_ret;rw[HR2.out];refine⟨?_,K⟩
  have:(kn==ks.length)=false:=by simpa using c1'
  simp[this]
 |false=>?_
 rw[q3]at HR2;go_wp2;go_ret;rw[HR2.out];exact⟨by simp,K⟩
end
namespace Ch
theorem Oz{L:List RN}{t:ByteArray}{k:Nat}{last:Int}{on:List Bool}(hk:k<t.size)(h:eV L (af t k)<=last):jz L t (t.size-k) k last on=none:=by
 rw[show t.size-k=(t.size-(k+1))+1 by omega];simp only[jz];rw[if_pos h]
theorem OB{L:List RN}{t:ByteArray}{k i:Nat}{last:Int}{on:List Bool}(hk:k<t.size)(hi:eV L (af t k)=i)(h:¬(i:Int)<=last):jz L t (t.size-k) k last on=jz L t (t.size-(k+1)) (k+1) i (on.set i true):=by
 rw[show t.size-k=(t.size-(k+1))+1 by omega];simp only[jz];rw[hi,if_neg h,Int.toNat_natCast]
theorem TI(L:List RN)(b:Int):eV L b= -1\/∃i:Nat,eV L b=i/\i<L.length:=by
 rcases jl L b with⟨h,_,_⟩|⟨i,hi,h,_,_⟩
 ·exact .inl h
 exact .inr ⟨i,h,hi⟩
end Ch
def SpQ(w w':World)(l:List NV)(s:ByteArray)(u:Value):Prop:=Kp (λ_=>False) w w'/\
 ∀on,gf (Ch.mk l) s=some on->u= .slice (some ⟨w.heap.size,0,none⟩) l.length l.length/\iH w' w.heap.size on/\on.length=l.length
section
variable (w:World) (B cb:Nat)
theorem za(l:List NV)(v:Value)(s:ByteArray)(hF:iG w B cb l v)(hl:l.length<=1000)(hs:s.size<=maxLen):
 Calls prog 196 #[.pointer (some ⟨cb,0,none⟩),.string s] w λx w'=>∃u,x= .returned (.tuple #[u,.bool (gf (Ch.mk l) s).isSome])/\SpQ w w' l s u:=by
 obtain⟨i0,hi,hz0,hz1,hz2⟩:=info_parts wW;obtain⟨ao,cap,rfl⟩:=hF.2.1.len;have zc:=hF.cell;have hs':s.size<=9223372036854775807:=hs;have HF:=hid hF;clear hF hs
 go_enter func196,ntmps196
 go_wp2_with (at_make;refine wpList_make_full w rfl (.tmp 14) (.tmp 14) 68 rfl w.heap.size 4 i0 (.bool false) 1 underlying68 hi hz0 hz1 .i64 .i64 l.length l.length l.length rfl rfl rfl rfl ?c1 ?c2 (Nat.le_refl _) ?_)
 case c1=>rw[hz2];omega
 case c2=>unfold maxLen;omega
 intro w4 o4 g4;have K4:Kp (λ_=>False) w w4:=(Kp.refl _ _).grown g4 (λi hi _=>by simp at hi);have Dx:=iH.made o4;have Kd:=HF.out.ai K4;have HQ:=hid (ae Kd K4);clear zc HF o4 g4 Kd K4;generalize hg:w.heap.size=g at*
 go_wp2_with fail
 go_loopw [7,8] (λlv kv wr=>∃(k:Nat) (last:Int) (on:List Bool),lv= .int .i64 last/\kv= .int .i64 k/\k<=s.size/\ -1<=last/\last<l.length/\on.length=l.length/\iH wr g on/\Hid (gf (Ch.mk l) s=jz (Ch.mk l) s (s.size-k) k last on)/\Kp (λi=>i=g) w4 wr) (λ_ kv _=>s.size-(intOf kv).toNat)
 case atStart=>exact⟨0,-1,List.replicate l.length false,rfl,rfl,Nat.zero_le _,by omega,by omega,by simp,Dx,hid (by unfold gf;rw[cP];rfl),Kp.refl _ _⟩
 case round=>
  obtain⟨k,last,on,rfl,rfl,hk,hl1,hl2,hol,hon,HS,KW⟩:=hrel
  have ey:iG wr B cb l (.slice ao l.length cap):=HQ.out.1.A4 KW (λi cur T hi _ hT e=>by
   subst e;unfold iH at Dx;rw[Dx]at hi;simp only[Option.some.injEq,Obj.cells.injEq]at hi
   rcases hT with h|h|h|h<;>rw[h]at hi<;>exact absurd hi.2.1 (by decide))
  have KZ:=hid (HQ.out.2.trans' KW (λi hi x=>by omega))
  by_cases hlt:k<s.size
  ·have hlt':(k:Int)<(s.size:Int):=by omega
   have hpk:af s k=((s[k]'hlt).toNat:Int):=by simp[af,hlt]
   have E:=hid (vG wr B cb l _ ((s[k]'hlt).toNat:Int) ey hl)
   have hno:=λh=>Oz (L:=Ch.mk l) (on:=on) hlt (last:=last) h
   have hgo:=λi hi h=>OB (L:=Ch.mk l) (on:=on) (i:=i) hlt (last:=last) hi h
   have hin:=TI (Ch.mk l) (af s k);rw[hpk]at hno hgo hin;rw[cP]at hin;generalize eV (Ch.mk l) ((s[k]'hlt).toNat:Int)=nr at*
   by_cases c:nr<=last
   ·have HR:=hid (HS.out.trans (hno c))
    clear hno hgo hin hpk ey HS
    go_wp2_with fail
    refine hm E ?_;rintro x w5 ⟨rfl,e5⟩;rw[e5];go_wp2;go_ret2;exact⟨_,by rw[HR.out];rfl,KZ.out,λon' h=>by rw[HR.out]at h;cases h⟩
   obtain⟨i,rfl,hil⟩:∃i:Nat,nr=i/\i<l.length:=by
    rcases hin with h|h
    ·omega
    exact h
   have HR:=hid (HS.out.trans (hgo i rfl c))
   have ajN:(i:Int)<(l.length:Int):=by omega
   have c':last<(i:Int):=by omega
   have zi:=hon.cell (k:=i) (by omega);have fi:=hon.free i;have HON:=hid (hon.set i true);have Dc:=hid (KW.setCell (p:=⟨g,i,none⟩) (λ_=>rfl) (.bool true));clear hno hgo hin hpk ey HS hon KW KZ
   go_wp2_with fail
   refine hm E ?_;rintro x w5 ⟨rfl,e5⟩;rw[e5];go_wp2
   go_roundw
   case rel=>exact⟨k+1,i,on.set i true,rfl,by go_num,by omega,by omega,by omega,by simp[hol],HON.out,hid HR.out,Dc.out⟩
   case measure=>simp[intOf];omega
  have hge:¬(k:Int)<(s.size:Int):=by omega
  obtain rfl:k=s.size:=by omega
  have HR:=hid (show gf (Ch.mk l) s=some on by rw[HS.out,Nat.sub_self];rfl);clear ey HS;go_wp2;go_ret2
  exact⟨_,by rw[HR.out];rfl,KZ.out,λon' h=>by
   rw[HR.out]at h
   obtain rfl:on=on':=by simpa using h
   subst hg
   exact⟨rfl,hon,hol⟩⟩
end
namespace Ch
theorem Xh{L:List RN}{t:ByteArray}(h:(cG L).length≠t.size):zL L t=false:=by
 unfold zL;have:((cG L).length==t.size)=false:=by simpa using h
 rw[this];rfl
theorem aau{L:List RN}{t:ByteArray}{k:Nat}(hk:k<(cG L).length)(h:zK L t ((cG L).getD k 0) k=false):zL L t=false:=by
 unfold zL
 have:((List.range (cG L).length).all λk=>zK L t ((cG L).getD k 0) k)=false:=by
  rw[List.all_eq_false];exact⟨k,by simpa using hk,by simp only[h];decide⟩
 rw[this];simp
theorem Xi{L:List RN}{t:ByteArray}(h0:(cG L).length=t.size)(h:∀k,k<(cG L).length->zK L t ((cG L).getD k 0) k=true):zL L t=true:=by
 unfold zL
 have h1:((cG L).length==t.size)=true:=by simpa using h0
 rw[h1,Bool.true_and,List.all_eq_true];intro k hk;exact h k (by simpa using hk)
theorem Xj{L:List RN}{j:Nat}(h:j∈cG L):j<L.length:=by
 unfold cG at h;rw[List.mem_filter]at h;simpa using h.1
theorem tN(L:List RN):(cG L).length<=L.length:=by
 unfold cG;have:=List.length_filter_le (λi=>(cS L i).kind==5) (List.range L.length);simpa using this
theorem any_take_succ{l:List Nat}{p:Nat->Bool}{k j:Nat}(h:l[k]? =some j):(l.take (k+1)).any p=((l.take k).any p||p j):=by
 rw[List.take_add_one,h,List.any_append];simp
end Ch
section
variable (w:World) (B cb:Nat)
theorem zN(l:List NV)(v:Value)(s:ByteArray)(hF:iG w B cb l v)(hl:l.length<=1000)(hs:s.size<=maxLen):
 Calls prog 198 #[.pointer (some ⟨cb,0,none⟩),.string s] w λx w'=>x= .returned (.bool (zL (Ch.mk l) s))/\Kp (λ_=>False) w w':=by
 have E0:=hid (uK w B cb l v hF hl);obtain⟨ao,cap,rfl⟩:=hF.2.1.len
 have yE:=λj (h:j∈cG (Ch.mk l))=>Xj h
 have hhl:=tN (Ch.mk l);rw[cP]at yE hhl;have HNO:=hid (λh=>Xh (L:=Ch.mk l) (t:=s) h);have HN1:=hid (λk hk h=>aau (L:=Ch.mk l) (t:=s) (k:=k) hk h);have HY:=hid (λh0 h=>Xi (L:=Ch.mk l) (t:=s) h0 h);generalize cG (Ch.mk l)=hs' at*;unfold maxLen at hs;have HF:=hid hF;have HL:=hid yE;clear hF yE
 go_enter func198,ntmps198
 go_wp2_with fail
 refine hm E0 ?_;rintro x w1 ⟨u,rfl,ho,K1⟩;obtain⟨ua,uc,rfl⟩:=aF ho;have HO:=hid (ae ho K1);have hF1:=HF.out.ai K1;have HF1:=hid hF1;clear ho K1 hF1 E0 HF
 by_cases hne:hs'.length=s.size
 ·have hne':((hs'.length:Int)!=(s.size:Int))=false:=by simp;omega
  go_wp2_with fail
  go_loopw [6] (λkv wr=>∃k:Nat,kv= .int .i64 k/\k<=hs'.length/\Hid (∀j,j<k->zK (Ch.mk l) s (hs'.getD j 0) j=true)/\Kp (λ_=>False) w1 wr) (λkv _=>hs'.length-(intOf kv).toNat)
  case atStart=>exact⟨0,rfl,Nat.zero_le _,hid (λj h=>absurd h (by omega)),Kp.refl _ _⟩
  case round=>
   obtain⟨k,rfl,hk,HB,KW⟩:=hrel;have ey:=HF1.out.ai KW;have zc:=ey.cell;have hor:=KW.owns HO.out.1 (λ_ _ x=>x)
   by_cases hlt:k<hs'.length
   ·have hlt':(k:Int)<(hs'.length:Int):=by omega
    have hks:k<s.size:=by omega
    have af8:(k:Int)<(s.size:Int):=by omega
    obtain⟨j0,hj0⟩:∃j0,hs'[k]? =some j0:=⟨_,List.getElem?_eq_getElem hlt⟩
    have hjl:=HL.out j0 (List.mem_of_getElem? hj0)
    have AK:(j0:Int)<(l.length:Int):=by omega
    obtain⟨x,hx⟩:∃x,l[j0]? =some x:=⟨_,List.getElem?_eq_getElem hjl⟩
    obtain⟨g,cap',hv,_,hcell,_⟩:=ey.2.1.form hx;simp only[Value.slice.injEq]at hv;obtain⟨rfl,-,rfl⟩:=hv;have z2:wr.cell? ⟨g,j0*7+2,none⟩=some (.int .i64 x.n.parent):=hcell 2 (by omega);obtain⟨g2,cap2,hv2,_⟩:=World.ownsRow.form hor (by omega);simp only[Value.slice.injEq]at hv2;obtain⟨rfl,-,rfl⟩:=hv2
    have zh:wr.cell? ⟨g2,k,none⟩=some (.int .i64 j0):=by
     rw[World.ownsRow.cellAt hor k (by omega)];simp[aJ,im,hj0]
    have hpk:af s k=((s[k]'hks).toNat:Int):=by simp[af,hks]
    have hP:zK (Ch.mk l) s (hs'.getD k 0) k=(((s[k]'hks).toNat:Int)==45||(cE (Ch.mk l) x.n.parent).any λj=>(cS (Ch.mk l) j).name==((s[k]'hks).toNat:Int)):=by
     unfold zK;rw[hpk,List.getD_eq_getElem?_getD,hj0];simp only[Option.getD_some];rw[iL hx]
    have Ft:=hid (λ(h:zK (Ch.mk l) s (hs'.getD k 0) k=true)=>show∀j,j<k+1->zK (Ch.mk l) s (hs'.getD j 0) j=true from λj hj=>by
     rcases Nat.lt_or_eq_of_le (Nat.le_of_lt_succ hj)with h'|h'
     ·exact HB.out j h'
     subst h';exact h)
    cases q45:(((s[k]'hks).toNat:Int)==45)with
    |true=>
     rw[q45,Bool.true_or]at hP;have HP:=hid hP;have Dc:=hid KW;clear hP hpk ey hcell hor KW;go_wp2
     go_roundw
     case rel=>exact⟨k+1,by go_num,by omega,hid (Ft.out HP.out),Dc.out⟩
     case measure=>simp[intOf];omega
    |false=>?_
    rw[q45,Bool.false_or]at hP;have E:=hid (iE wr.drew B cb l _ x.n.parent (ey.ai (Kp.refl _ _).drew) hl);have hkl:=jB (Ch.mk l) x.n.parent
    have hlt2:=λj (h:j∈cE (Ch.mk l) x.n.parent)=>Cn h
    rw[cP]at hkl hlt2;generalize cE (Ch.mk l) x.n.parent=ks at*;have HP:=hid hP;have HL2:=hid hlt2;have HW:=hid (ae ey KW);clear hP hpk ey hcell hor KW hlt2
    go_upto_region 8 with(fail)
    go_region_held3 (λw'=>w'.cell? ⟨cb,0,none⟩=some (.slice (some ⟨g,0,none⟩) l.length cap)/\w'.cell? ⟨g2,k,none⟩=some (.int .i64 j0)/\w'.cell? ⟨g,j0*7+2,none⟩=some (.int .i64 x.n.parent)) (first|exact⟨zc,zh,z2⟩|exact HS.out) ((go_at_call 234;refine hm E ?_;rintro y w5 ⟨u,rfl,sr,K5⟩;obtain⟨ua5,uc5,rfl⟩:=aF sr;have H:=hid (ae sr K5);have HS:=hid (ae (K5.bj zc) (ae (K5.bj zh) (K5.bj z2)));clear E sr K5))
    obtain⟨sr,K5⟩:=H.out;have Vh:=(HW.out.1.ai (Kp.refl _ _).drew).ai K5;have zc5:=Vh.cell;have HX:=hid (ae sr (ae Vh (HW.out.2.drew.trans K5)));clear sr Vh K5 HW H HS zc z2 zh
    go_wp2_with fail
    go_loopw [8,9] (λokv jv wq=>∃j:Nat,jv= .int .i64 j/\j<=ks.length/\okv= .bool ((ks.take j).any λi=>(cS (Ch.mk l) i).name==((s[k]'hks).toNat:Int))/\Kp (λ_=>False) w5 wq) (λ_ jv _=>ks.length-(intOf jv).toNat)
    case atStart=>exact⟨0,rfl,Nat.zero_le _,rfl,Kp.refl _ _⟩
    case round=>
     obtain⟨j,rfl,hj,rfl,KQ⟩:=hrel;have yB:=HX.out.2.1.ai KQ;have zcq:=yB.cell;have hoq:=KQ.owns HX.out.1 (λ_ _ x=>x)
     by_cases hjlt:j<ks.length
     ·have amk:(j:Int)<(ks.length:Int):=by omega
      obtain⟨i,hi⟩:∃i,ks[j]? =some i:=⟨_,List.getElem?_eq_getElem hjlt⟩
      have hil:=HL2.out i (List.mem_of_getElem? hi)
      have ajN:(i:Int)<(l.length:Int):=by omega
      obtain⟨y,hy⟩:∃y,l[i]? =some y:=⟨_,List.getElem?_eq_getElem hil⟩
      obtain⟨g3,xk,hv3,_,lA,_⟩:=yB.2.1.form hy;simp only[Value.slice.injEq,Option.some.injEq,Addr.mk.injEq,true_and,and_true]at hv3;obtain⟨rfl,rfl⟩:=hv3;have z0:wr.cell? ⟨g,i*7,none⟩=some (.int .u8 y.n.name):=lA 0 (by omega);obtain⟨g4,cap4,hv4,_⟩:=World.ownsRow.form hoq (by omega);simp only[Value.slice.injEq]at hv4;obtain⟨rfl,-,rfl⟩:=hv4
      have zk:wr.cell? ⟨g4,j,none⟩=some (.int .i64 i):=by
       rw[World.ownsRow.cellAt hoq j (by omega)];simp[aJ,im,hi]
      have hN:=any_take_succ (p:=λi=>(cS (Ch.mk l) i).name==((s[k]'hks).toNat:Int)) hi;simp only[iL hy]at hN;generalize (ks.take j).any (λi=>(cS (Ch.mk l) i).name==((s[k]'hks).toNat:Int))=acc at*
      cases qn:y.n.name==((s[k]'hks).toNat:Int)<;>cases acc<;>rw[qn]at hN<;>
      (have HN:=hid hN
       clear hN lA yB hoq;go_wp2
       go_quiet (fail)
       go_wp2
       go_roundw
       case rel=>exact⟨j+1,by go_num,by omega,by rw[HN.out];rfl,KQ.drewN _⟩
       case measure=>simp[intOf];omega)
     have aoU:¬(j:Int)<(ks.length:Int):=by omega
     obtain rfl:j=ks.length:=by omega
     rw[List.take_length,<-HP.out]
     cases qP:zK (Ch.mk l) s (hs'.getD k 0) k with
     |false=>
      have HR:=hid (HN1.out k hlt qP);go_wp2;go_ret;rw[HR.out];exact⟨rfl,HO.out.2.trans (HX.out.2.2.trans KQ)⟩
     |true=>?_
     have HZ:=hid (Ft.out qP);go_wp2
     go_roundw
     case rel=>exact⟨k+1,by go_num,by omega,hid HZ.out,HX.out.2.2.trans KQ⟩
     case measure=>simp[intOf];omega
   have hge:¬(k:Int)<(hs'.length:Int):=by omega
   obtain rfl:k=hs'.length:=by omega
   have HR:=hid (HY.out hne HB.out);clear ey hor;go_wp2;go_ret;rw[HR.out];exact⟨rfl,HO.out.2.trans KW⟩
 have hne':((hs'.length:Int)!=(s.size:Int))=true:=by simp;omega
 have HR:=hid (HNO.out hne);go_wp2;go_ret;rw[HR.out];exact⟨rfl,HO.out.2⟩
end
end Go.Proofs.YtnlbchmfcebeeaaGreat
