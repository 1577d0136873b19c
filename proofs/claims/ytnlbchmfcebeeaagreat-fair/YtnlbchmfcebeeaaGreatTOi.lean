import Derived.Test.YtnlbchmfcebeeaaGreatTOh
set_option maxHeartbeats 12800000
set_option maxRecDepth 100000
namespace Go.Proofs.YtnlbchmfcebeeaaGreat
open Go.Proofs.Tryz Ch
open Go.RowKit
namespace Ch
def sl(t:Tk):Nat:=if t.kind=1 then t.events.size-t.fired else if t.kind=2 then 1 else 0
def fq(t:Tk):Nat:=if t.kind=3 then 3-t.steps else if t.kind=4 then 1 else 0
def Mf(l:List Tk):Nat:=(l.map sl).sum
theorem Rh{t:Tk}(t':Tk):∀{l:List Tk} {u:Nat},l[u]? =some t->Mf (l.set u t')+sl t=Mf l+sl t':=by
 intro l
 induction l with
 |nil=>intro u h;simp at h
 |cons a l ih=>?_
 intro u h
 cases u with
 |zero=>simp at h;subst h;simp[Mf];omega
 |succ u=>?_
 simp at h;have:=ih h;simp[Mf]at*;omega
theorem ael{l:List Tk}(h:∀t∈l,sl t<=4):Mf l<=4*l.length:=by
 induction l with
 |nil=>simp[Mf]
 |cons a l ih=>?_
 have:=ih (λt ht=>h t (List.mem_cons_of_mem _ ht));have:=h a (List.mem_cons_self ..);simp[Mf]at*;omega
theorem abi{l:List Tk}(h:Mf l≠0):∃(i:Nat) (t:Tk),l[i]? =some t/\sl t≠0:=by
 induction l with
 |nil=>simp[Mf]at h
 |cons a l ih=>?_
 by_cases q:sl a=0
 ·obtain⟨i,t,h1,h2⟩:=ih (by simp[Mf]at*;omega)
  exact⟨i+1,t,h1,h2⟩
 exact⟨0,a,rfl,q⟩
theorem YP{l:List Tk}(h:Mf l=0){i:Nat}{t:Tk}(ht:l[i]? =some t):sl t=0:=by
 have:=Rh fB ht
 have h0:sl fB=0:=by simp[sl,fB]
 omega
theorem PW:sl fB=0:=by simp[sl,fB]
theorem aem:fq fB=0:=by simp[fq,fB]
section
variable {t:ByteArray} {ol:Ol} {x:Sv} {all:List Sd} {log:ByteArray} {u n:Nat} {k:Tk}
def Vo(x x':Sv)(u:Nat)(k k':Tk):Prop:=x'.tasks=x.tasks.set u k'/\(fq k'=0\/fq k'+1<=fq k)/\sl k'<=sl k/\(sl k'≠0->k'.drawn=true)/\(k.drawn=true->k.ticket=x.turn->sl k'<sl k)/\(¬(k.drawn=true/\k.ticket=x.turn)->x'.turn=x.turn)
theorem xG(h:k.kind=1\/k.kind=2):fq k=0:=by
 unfold fq
 rcases h with e|e<;>rw[e]<;>rfl
theorem Rj(h:k.kind=3\/k.kind=4):sl k=0:=by
 unfold sl
 rcases h with e|e<;>rw[e]<;>rfl
theorem Vo.end_{x':Sv}(e:x'.tasks=x.tasks.set u fB)(h:k.drawn=true->k.ticket=x.turn->0<sl k)(ht:¬(k.drawn=true/\k.ticket=x.turn)->x'.turn=x.turn):Vo x x' u k fB:=
 ⟨e,.inl aem,by rw[PW];exact Nat.zero_le _,λc=>absurd PW c,λa b=>by rw[PW];exact h a b,ht⟩
theorem It{l:List Tk}(h:l[u]? =some k):l.set u k=l:=by
 apply List.ext_getElem?;intro i;rw[List.getElem?_set]
 split
 ·rename_i e
  subst e;rw[if_pos (List.getElem?_eq_some_iff.1 h).1,h]
 rfl
theorem SI.step(h:SI ol x all log)(hR:qw t ol)(hu:x.tasks[u]? =some k):∃k',Vo x (cZ ol x (u:Int)).1 u k k':=by
 have hI:=h.tk u k hu
 by_cases q:k.kind=0
 ·rw[vR hu q]
  have e:=hI.idle q;subst e;exact⟨fB,Vo.end_ (It hu).symm (λd=>by simp[fB]at d) (λ_=>rfl)⟩
 rcases uQ (hI.rq q)with c|c|c|c
 ·have c:k.kind=1:=c
  have hq:=lF (hI.rq q) c;have hsz:1<=k.events.size:=hq.1
  have hs:sl k=k.events.size-k.fired:=by unfold sl;rw[if_pos c]
  cases hd:k.drawn with
  |false=>
   rw[(h.draws hu (.inl c) hd).1];refine⟨{k with drawn:=true,ticket:=x.bA},rfl,.inl (xG (.inl c)),Nat.le_refl _,λ_=>rfl,λe=>?_,λ_=>rfl⟩;rw[hd]at e;cases e
  |true=>?_
  by_cases ht:k.ticket=x.turn
  ·by_cases hv:0<k.fired\/k.at_<0\/k.at_=(all.length:Int)-1
   ·obtain⟨s,o,_,hlt,hc⟩:=h.ab6 hR hu c hd ht hv
    have hp:0<sl k:=by omega
    rcases hc with⟨_,_,e,_⟩|⟨s',o',_,c1,e,_⟩|⟨s',o',_,c1,e,_⟩
    ·rw[e]
     exact⟨fB,Vo.end_ rfl (λ_ _=>hp) (λn=>absurd ⟨hd,ht⟩ n)⟩
    ·rw[e]
     have hs':sl {k with fired:=k.fired+1,now:=s',out:=o'}=k.events.size-(k.fired+1):=by unfold sl;rw[if_pos c]
     refine⟨{k with fired:=k.fired+1,now:=s',out:=o'},rfl,.inl (xG (.inl c)),by omega,λ_=>hd,λ_ _=>by omega,λn=>absurd ⟨hd,ht⟩ n⟩
    rw[e];exact⟨fB,Vo.end_ rfl (λ_ _=>hp) (λn=>absurd ⟨hd,ht⟩ n)⟩
   have hf:k.fired=0:=by omega
   rw[(h.t_ hu c hd ht hf (by omega) (by omega)).1];exact⟨fB,Vo.end_ rfl (λ_ _=>by omega) (λn=>absurd ⟨hd,ht⟩ n)⟩
  rw[SI.waits (ol:=ol) hu (.inl c) hd ht];exact⟨k,(It hu).symm,.inl (xG (.inl c)),Nat.le_refl _,λ_=>hd,λ_ e=>absurd e ht,λ_=>rfl⟩
 ·have c:k.kind=2:=c
  have hs:sl k=1:=by unfold sl;rw[if_neg (by rw[c];decide),if_pos c]
  cases hd:k.drawn with
  |false=>
   rw[(h.draws hu (.inr c) hd).1];refine⟨{k with drawn:=true,ticket:=x.bA},rfl,.inl (xG (.inr c)),Nat.le_refl _,λ_=>rfl,λe=>?_,λ_=>rfl⟩;rw[hd]at e;cases e
  |true=>?_
  by_cases ht:k.ticket=x.turn
  ·rw[(h.ab5 hR hu c hd ht).1]
   exact⟨fB,Vo.end_ rfl (λ_ _=>by omega) (λn=>absurd ⟨hd,ht⟩ n)⟩
  rw[SI.waits (ol:=ol) hu (.inr c) hd ht];exact⟨k,(It hu).symm,.inl (xG (.inr c)),Nat.le_refl _,λ_=>hd,λ_ e=>absurd e ht,λ_=>rfl⟩
 ·have c:k.kind=3:=c
  have hnd:=h.CU hu (.inl c)
  have hf:fq k=3-k.steps:=by unfold fq;rw[if_pos c]
  have hst:=hI.st
  have hno:k.drawn=true->k.ticket=x.turn->0<sl k:=λd=>by rw[hnd]at d;cases d
  rcases(by omega:k.steps=0\/k.steps=1\/k.steps=2)with hs|hs|hs
  ·rcases h.ab7 hu c hs with⟨_,e,_⟩|⟨_,_,e,_⟩|⟨m,_,_,_,e,_⟩
   ·rw[e]
    exact⟨fB,Vo.end_ rfl hno (λ_=>rfl)⟩
   ·rw[e]
    exact⟨fB,Vo.end_ rfl hno (λ_=>rfl)⟩
   rw[e]
   have h1:fq {k with steps:=1,pinned:=(m:Int)}=2:=by unfold fq;rw[if_pos c];rfl
   have h2:sl {k with steps:=1,pinned:=(m:Int)}=0:=Rj (.inl c);exact⟨{k with steps:=1,pinned:=(m:Int)},rfl,.inr (by omega),by omega,λg=>absurd h2 g,λd=>(by rw[hnd]at d;cases d),λ_=>rfl⟩
  ·rw[(h.ab8 hu c hs).1]
   have h1:fq {k with steps:=2}=1:=by unfold fq;rw[if_pos c];rfl
   have h2:sl {k with steps:=2}=0:=Rj (.inl c);exact⟨{k with steps:=2},rfl,.inr (by omega),by omega,λg=>absurd h2 g,λd=>(by rw[hnd]at d;cases d),λ_=>rfl⟩
  obtain⟨m,_,_,e,_⟩:=h.ab9 hu c hs;rw[e];exact⟨fB,Vo.end_ rfl hno (λ_=>rfl)⟩
 have c:k.kind=4:=c;have hnd:=h.CU hu (.inr c);rw[(h.poll hu c).1];exact⟨fB,Vo.end_ rfl (λd=>by rw[hnd]at d;cases d) (λ_=>rfl)⟩
structure qW(x:Sv)(n m u:Nat):Prop where
 fr:∀(i:Nat) (a:Tk),x.tasks[i]? =some a->fq a=0\/fq a+m+(if i<u then 1 else 0)<=3
 dr:∀(i:Nat) (a:Tk),x.tasks[i]? =some a->1<=m\/i<u->sl a≠0->a.drawn=true
 sm:Mf x.tasks=0\/Mf x.tasks+m<=4*n\/(Mf x.tasks+(m-1)<=4*n/\(1<=m->∃(i:Nat) (a:Tk),u<=i/\x.tasks[i]? =some a/\a.drawn=true/\a.ticket=x.turn))
theorem ahE(h:SI ol x all log)(hu:x.tasks[u]? =some k):sl k<=4:=by
 unfold sl
 split
 ·rename_i c
  have hq:=lF ((h.tk u k hu).rq (by rw[c];decide)) c;have:k.events.size<=4:=hq.2.1;omega
 split<;>omega
theorem ahF(k:Tk):fq k<=3:=by
 unfold fq
 split
 ·omega
 split<;>omega
theorem qW.start(h:SI ol x all log)(hn:x.tasks.length=n):qW x n 0 0:=by
 refine⟨λi a ha=>.inr ?_,λi a ha c=>by omega,.inr (.inl ?_)⟩
 ·have:=ahF a
  rw[if_neg (by omega)];omega
 rw[<-hn];refine ael (λa ha=>?_);obtain⟨i,hi⟩:=List.mem_iff_getElem?.1 ha;exact ahE h hi
theorem qW.step{m:Nat}(F:qW x n m u)(h:SI ol x all log)(hR:qw t ol)(hu:u<x.tasks.length):qW (cZ ol x (u:Int)).1 n m (u+1):=by
 obtain⟨k,hk⟩:∃k,x.tasks[u]? =some k:=⟨_,List.getElem?_eq_getElem hu⟩
 obtain⟨k',e,h1,h2,h3,h4,h5⟩:=h.step hR hk;generalize (cZ ol x (u:Int)).1=x' at*;have hsum:=Rh k' hk;rw[<-e]at hsum;refine⟨λi a ha=>?_,λi a ha c=>?_,?_⟩
 ·rw[e]at ha
  rcases fK ha with⟨rfl,rfl⟩|⟨ni,ha⟩
  ·rw[if_pos (by omega)]
   rcases h1 with g|g
   ·exact .inl g
   rcases F.fr i k hk with f|f
   ·omega
   rw[if_neg (by omega)]at f
   right;omega
  rcases F.fr i a ha with f|f
  ·exact .inl f
  right
  by_cases q:i<u
  ·rw[if_pos q]at f;rw[if_pos (by omega)];exact f
  rw[if_neg q]at f;rw[if_neg (by omega)];exact f
 ·rw[e]at ha
  rcases fK ha with⟨rfl,rfl⟩|⟨ni,ha⟩
  ·exact h3
  exact F.dr i a ha (by omega)
 rcases F.sm with f|f|⟨f,g⟩
 ·left;omega
 ·right;left;omega
 by_cases q:k.drawn=true/\k.ticket=x.turn
 ·have:=h4 q.1 q.2
  right;left;omega
 by_cases qm:1<=m
 ·obtain⟨i,a,i1,i2,i3,i4⟩:=g qm
  right;right
  refine⟨by omega,λ_=>⟨i,a,?_,?_,i3,by rw[h5 q];exact i4⟩⟩
  ·rcases Nat.lt_or_ge u i with c|c
   ·exact c
   have:i=u:=by omega
   subst this;rw[hk]at i2;simp at i2;subst i2;exact absurd ⟨i3,i4⟩ q
  rw[e,List.getElem?_set_ne (λc=>?_)]
  ·exact i2
  subst c;rw[hk]at i2;simp at i2;subst i2;exact absurd ⟨i3,i4⟩ q
 right;left;omega
theorem qW.round{m:Nat}(F:qW x n m n)(h:SI ol x all log)(hn:x.tasks.length=n):qW x n (m+1) 0:=by
 have hlt:∀(i:Nat) (a:Tk),x.tasks[i]? =some a->i<n:=λi a ha=>by rw[<-hn];exact(List.getElem?_eq_some_iff.1 ha).1
 refine⟨λi a ha=>?_,λi a ha _=>F.dr i a ha (.inr (hlt i a ha)),?_⟩
 ·rcases F.fr i a ha with f|f
  ·exact .inl f
  rw[if_pos (hlt i a ha)]at f
  right;rw[if_neg (by omega)];omega
 by_cases q:Mf x.tasks=0
 ·exact .inl q
 right;right
 have hs:Mf x.tasks+m<=4*n:=by
  rcases F.sm with f|f|⟨f,g⟩
  ·exact absurd f q
  ·exact f
  by_cases qm:1<=m
  ·obtain⟨i,a,i1,i2,_⟩:=g qm
   have:=hlt i a i2;omega
  omega
 refine⟨by omega,λ_=>?_⟩;obtain⟨i,a,ha,hs⟩:=abi q;have hd:=F.dr i a ha (.inr (hlt i a ha)) hs;have hI:=(h.tk i a ha).dr hd;obtain⟨j,b,hb,d,e⟩:=h.cov x.turn (Nat.le_refl _) (by omega);exact⟨j,b,Nat.zero_le _,hb,d,e⟩
theorem qW.done{m:Nat}(F:qW x n m 0)(h:SI ol x all log)(hm:4*n+3<=m)(hn:1<=n)(hu:x.tasks[u]? =some k):k.kind=0:=by
 have hs:Mf x.tasks=0:=by
  rcases F.sm with f|f|⟨f,_⟩<;>omega
 have hf:fq k=0:=by
  rcases F.fr u k hu with f|f
  ·exact f
  omega
 have hz:=YP hs hu;have hI:=h.tk u k hu
 rcases Decidable.em (k.kind=0)with q|q
 ·exact q
 rcases uQ (hI.rq q)with c|c|c|c
 ·have c:k.kind=1:=c
  have hq:=lF (hI.rq q) c;have hsz:1<=k.events.size:=hq.1;unfold sl at hz;rw[if_pos c]at hz
  rcases Nat.eq_zero_or_pos k.fired with e|e
  ·omega
  have:=(hI.wk e).2.2.2.1;omega
 ·have c:k.kind=2:=c
  unfold sl at hz;rw[if_neg (by rw[c];decide),if_pos c]at hz;omega
 ·have c:k.kind=3:=c
  unfold fq at hf;rw[if_pos c]at hf;have:=hI.st;omega
 have c:k.kind=4:=c;unfold fq at hf;rw[if_neg (by rw[c];decide),if_pos c]at hf;omega
end
end Ch
section
variable {w0 w w':World} {B c:Nat} {p:Lp} {t:ByteArray} {xb tb:Nat} {pc:Pc} {ol:Ol} {n i:Nat} {L:Ln} {x:Sv} {all:List Sd} {log:ByteArray} {av kv:Value}
theorem jK.idle(T:jK w0 w B c p t xb tb pc ol n i L x all log av kv)(hR:qw t ol)(hol:ol.Ok)(hi:i<=2000000)(hc:c<=10000000000){u:Nat}{k:Tk}(hk:x.tasks[u]? =some k)(hk0:k.kind=0):
 Calls prog 38 #[.pointer (some ⟨xb,0,none⟩),.int .i64 (u:Int)] w λy w'=>y= .returned (.tuple #[.agg (bW dR),.bool false,.int .i64 13])/\∃kq,jK w0 w' B c p t xb tb pc ol n i L x all log av kq:=by
 have hmk:=T.md;have sD:=T.lg;have htk:=T.tk;have hbd:=T.si.bd (by omega) (by omega) (by omega)
 have hBw:B<=w.heap.size:=by have:=T.fl p.wb (.inl rfl);have:=T.ln.low p.wb (.inl rfl);omega
 have E:=FM w T.sv hbd hol (u:Int) (λk' hk'=>by
  rw[xC hk]at hk';simp at hk';subst hk'
  exact T.si.FO hR hol hk)
 rw[vR hk hk0]at E;refine E.mono ?_;rintro y w' ⟨rfl,q⟩;obtain⟨kq,h1,h2,h3⟩:=gL.fresh hBw T.fs q;exact⟨rfl,kq,T.ln.dG T.sv h3,h1,T.fl,h2,T.si,T.lr,T.md,T.lg,T.tk,T.st,T.tn,T.kp.trans' h3 (λk _ hk=>T.fs k hk)⟩
end
section
variable (w:World)
theorem YQ{lv:Value}{n:Nat}(hI:qs w w.heap.size lv n)(hn:n<=maxLen)(cl:Int)(hcl:In64 cl){sv:Value}{sn:Nat}(hS:Rg w w.heap.size sv sn)(hsn:sn<=maxLen):
 Calls prog 17 #[lv,.int .i64 cl,sv] w λx w'=>x= .returned (.bool true)/\Below w.heap.size w w':=by
 have E0:=hid (nO w hI hn);have HS:=hid hS;clear hI hn hS
 go_enter func17,ntmps17
 go_wp2_with fail
 refine hm E0 ?_;rintro y w1 ⟨LL,P,pv,rfl,_,B1,hP,hW,hL⟩;obtain⟨ol,hR,Z1⟩:=qB hP hW hL;have HR:=hid hR;generalize strOfNums LL=T at HR;clear E0 hP hW hL hR Z1;have EP:Hid (Calls prog 24 #[.int .i64 cl,.int .i64 6] w1 λx w'=>∃r:Nat,x= .returned (.int .i64 r)/\r<6/\w'=w1):=hid (ui w1 cl hcl.1 hcl.2 6 (by omega) (by omega))
 go_wp2_with fail
 refine hm EP ?_;rintro y w2 ⟨r,rfl,hr,rfl⟩;clear EP;have E1:=hid (tE w2)
 go_wp2_with fail
 refine hm E1 ?_;rintro y w3 ⟨rfl,K3⟩;have B3:=B1.trans (aG K3 B1.size);clear E1 K3 B1;have EB:=FU w3 T (r+1) (by omega) (by omega) (by rw[HR.out.rd]) (by rw[HR.out.rd];exact ly ol);rw[show((r+1:Nat):Int)=1+(r:Int)by omega]at EB;replace EB:=hid EB
 go_wp2_with fail
 refine hm EB ?_;rintro y w4 ⟨xv,wv,rfl,hq,K4⟩;have B4:=B3.trans (aG K4 B3.size);unfold YL at hq;rw[HR.out.rd]at hq;simp only at hq
 rcases ly ol with e|e
 ·obtain⟨xb,tb,pc,kv,p,av,rfl,rfl,hSv,hLn,hfs,hfl⟩:=hq.2 e
  have hol:ol.Ok:=by have:=mK T;rw[HR.out.rd]at this;exact this
  have hcz:=uf hol;have T0:=jK.start HR.out e (by omega) hLn hSv hfl hfs;obtain⟨ao,cap,rfl⟩:=HS.out.len;have alk:w.heap.size<=w3.heap.size:=B3.size;have pM:Rg w4 w.heap.size (.slice ao sn cap) sn:=HS.out.keep (Nat.le_refl _) (Nat.le_refl _) ((kZ B4).mono (λ_ _ x=>x.elim));have hs4:w3.heap.size<=w4.heap.size:=K4.size;generalize hBe:w3.heap.size=B at*;generalize (Ch.mstart ol).2.1.size=c at*;have Va:=hid pM;have HB:=hid B4;have HOL:=hid (ae hol hcz);obtain⟨dS,hdS,Is⟩:=YM;generalize hL0:DY (aH ol.ag (Ch.mstart ol).1) (Ch.mstart ol).2.1 (r+1)=L0 at T0;generalize hx0:lE ol (r+1)=x0 at T0;have HT0:=hid T0;clear T0 hfl hfs hLn hSv hq EB K4 HS pM B3 B4 hL0 hx0 hol hcz hBe
  have aln:(sn:Int)<=9223372036854775807:=by unfold maxLen at hsn;omega
  go_upto_region 8 with(fail)
  go_loopw [13,14] (λok iv wr=>∃i:Nat,ok= .bool true/\iv= .int .i64 i/\i<=sn/\Hid (∃L x all log av kv,jK w4 wr B c p T xb tb pc ol (r+1) 0 L x all log av kv)) (λ_ iv _=>sn-(intOf iv).toNat)
  case atStart=>exact⟨0,rfl,rfl,Nat.zero_le _,hid ⟨_,_,_,_,_,_,HT0.out⟩⟩
  case round=>
   obtain⟨i,rfl,rfl,hi,HT⟩:=hrel;clear HT0
   by_cases hlt:i<sn
   ·have hlt':(i:Int)<(sn:Int):=by omega
    obtain⟨L,x,all,log,av1,kv1,TT⟩:=HT.out;have hSr:Rg wr w.heap.size (.slice ao sn cap) sn:=Va.out.keep (Nat.le_refl _) (by omega) (TT.kp.mono (λk _ hk=>by show w.heap.size<=k;have:B<=k:=hk;omega));obtain⟨g,off,cap',hv,k,us,m,s,hc,hu64,aej,aek⟩:=hSr.at_ hlt;simp only[Value.slice.injEq,true_and]at hv;obtain⟨rfl,rfl⟩:=hv;have hnew:=heap_alloc_new wr (.cells #[.int .i64 0,.int .i64 0,.int .i64 0,.string ⟨#[]⟩] 58);have h5:=setRow_heap (wr.alloc (.cells #[.int .i64 0,.int .i64 0,.int .i64 0,.string ⟨#[]⟩] 58)) wr.heap.size #[.int .i64 0,.int .i64 0,.int .i64 0,.string ⟨#[]⟩] (stA k us m s) 58 (0,0) hnew;have K5:Kp (λ_=>False) wr ((wr.alloc (.cells #[.int .i64 0,.int .i64 0,.int .i64 0,.string ⟨#[]⟩] 58)).setRow wr.heap.size (stA k us m s)):=((Kp.refl _ _).alloc _).setRow (λx=>by omega) _;have T5:=hid (TT.ai K5);have sI:(prog.info? 58).map (·.size)=some (stA k us m s).size:=CZ;have sO:=aci k us m s;clear HT TT K5 hSr
    go_upto_region 11 with(first|refine aY rfl 58 (.tmp 60) rfl g (off+i*4) rfl (stL k us m s) dS hc hdS Is CZ ?_|refine wpList_store_row rfl 58 (.tmp 15) (.tmp 61) rfl wr.heap.size (stA k us m s) rfl rfl 58 #[.int .i64 0,.int .i64 0,.int .i64 0,.string ⟨#[]⟩] hnew sI rfl sO ?_)
    generalize (wr.alloc (.cells #[.int .i64 0,.int .i64 0,.int .i64 0,.string ⟨#[]⟩] 58)).setRow wr.heap.size (stA k us m s)=w5 at*;generalize wr.heap.size=b0 at*
    have z0:w5.cell? ⟨b0,0,none⟩=some (.int .i64 k):=by simp[World.cell?,h5,stA]
    have z1:w5.cell? ⟨b0,1,none⟩=some (.int .i64 us):=by simp[World.cell?,h5,stA]
    generalize ye:stA k us m s=SA at*;have Nf:=hid ye;clear ye hnew hc
    by_cases hka:1<=k
    ·by_cases hkb:k<=4
     ·have EP:=ui w5.drew us hu64.1 hu64.2 (r+1) (by omega) (by omega)
      rw[show((r+1:Nat):Int)=1+(r:Int)by omega]at EP
      replace EP:=hid (EP.mono (λe w' hh=>by
       obtain⟨u,h1,h2,h3⟩:=hh
       exact(⟨_,h1,u,rfl,h2,h3⟩:∃v,e= .returned v/\∃u:Nat,v= .int .i64 u/\u<r+1/\w'=w5.drew)))
      have EA:Hid (∀u:Nat,u<r+1->Calls prog 35 #[.pointer (some ⟨p.wb,0,none⟩),.pointer (some ⟨xb,0,none⟩),.int .i64 (u:Int),.agg SA] w5.drew λe w'=>∃v,e= .returned v/\v= .bool true/\Hid (∃L x all log av kv,jK w4 w' B c p T xb tb pc ol (r+1) 0 L x all log av kv)):=hid (λu hu=>by
       have:=(T5.out.ai (w':=w5.drew) ((Kp.refl (λ_=>False) w5).drew)).asks (by omega) HOL.out.2 hu k us m s hka hkb aej aek;rw[Nf.out]at this;refine this.mono ?_;rintro y w' ⟨rfl,L7,x7,av7,IF,T7⟩
       exact⟨_,rfl,rfl,hid ⟨_,_,_,_,_,_,T7⟩⟩)
      have h5:w5.drew.heap[b0]? =some (.cells SA 58 (0,0)):=h5;have z1:w5.drew.cell? ⟨b0,1,none⟩=some (.int .i64 us):=z1;clear T5
      go_upto_region 12 with(fail)
      go_cut [13]from 70 to 77 (λv wx=>v= .bool true/\Hid (∃L x all log av kv,jK w4 wx B c p T xb tb pc ol (r+1) 0 L x all log av kv))
      case first=>
       refine az (λ_=>True) (by kernel_rfl) ?_;refine aU 0 70 (.pointer (some ⟨p.wb,0,none⟩)) trivial ?_;refine aU 1 71 (.pointer (some ⟨xb,0,none⟩)) trivial ?_;refine aU 2 72 (.pointer (some ⟨b0,1,none⟩)) trivial ?_;refine aU 4 74 (.int .i64 (1+(r:Int))) trivial ?_;refine k6 3 6 (by kernel_rfl) rfl rfl rfl rfl ?_ ?_
       ·refine dZ (some 73) rfl (.int .i64 us) w5.drew (by simp[execOp,Act.eval,go_sem,z1]) ⟨trivial,?_⟩
        simp only[Act.put,pA,pB,pC];refine k6 5 6 (by kernel_rfl) rfl rfl rfl rfl ?_ ?_
        ·refine iD (some 75) rfl 24 #[.int .i64 us,.int .i64 (1+(r:Int))] (by simp[execOp,Act.eval,go_sem]) (λv w'=>∃u:Nat,v= .int .i64 u/\u<r+1/\w'=w5.drew) EP.out ?_
         rintro _ _ ⟨u,rfl,hu,rfl⟩;refine⟨trivial,?_⟩;simp only[Act.put,pA,pB,pC];refine jD 6 ?_;refine dZ (some 76) rfl (.agg SA) w5.drew (bu 58 (.tmp 15) rfl b0 rfl 58 SA (0,0) dS h5 hdS (by cases dS<;>first|rfl|exact absurd Is (by simp[ak])) sI) ⟨trivial,?_⟩;simp only[Act.put,pA,pB,pC];refine jD 7 ?_;refine iD (some 77) rfl 35 #[.pointer (some ⟨p.wb,0,none⟩),.pointer (some ⟨xb,0,none⟩),.int .i64 (u:Int),.agg SA] (by simp[execOp,Act.eval,go_sem]) (λv w'=>v= .bool true/\Hid (∃L x all log av kv,jK w4 w' B c p T xb tb pc ol (r+1) 0 L x all log av kv)) (EA.out u hu) ?_;rintro _ w7 ⟨rfl,Ar⟩;refine⟨trivial,?_⟩;simp only[Act.put,pA,pB,pC];refine aU 8 13 (.bool true) trivial ?_;refine wpAnyH_done (by kernel_rfl) (NoPanic.normal ?_) _
         go_wp2_with fail
         go_meet
         exact⟨rfl,Ar⟩
        refine dZ (some 76) rfl (.agg SA) w5.drew (bu 58 (.tmp 15) rfl b0 rfl 58 SA (0,0) dS h5 hdS (by cases dS<;>first|rfl|exact absurd Is (by simp[ak])) sI) ⟨trivial,?_⟩;simp only[Act.put,pA,pB,pC];refine jD 5 ?_;refine iD (some 75) rfl 24 #[.int .i64 us,.int .i64 (1+(r:Int))] (by simp[execOp,Act.eval,go_sem]) (λv w'=>∃u:Nat,v= .int .i64 u/\u<r+1/\w'=w5.drew) EP.out ?_;rintro _ _ ⟨u,rfl,hu,rfl⟩;refine⟨trivial,?_⟩;simp only[Act.put,pA,pB,pC];refine jD 7 ?_;refine iD (some 77) rfl 35 #[.pointer (some ⟨p.wb,0,none⟩),.pointer (some ⟨xb,0,none⟩),.int .i64 (u:Int),.agg SA] (by simp[execOp,Act.eval,go_sem]) (λv w'=>v= .bool true/\Hid (∃L x all log av kv,jK w4 w' B c p T xb tb pc ol (r+1) 0 L x all log av kv)) (EA.out u hu) ?_;rintro _ w7 ⟨rfl,Ar⟩;refine⟨trivial,?_⟩;simp only[Act.put,pA,pB,pC];refine aU 8 13 (.bool true) trivial ?_;refine wpAnyH_done (by kernel_rfl) (NoPanic.normal ?_) _
        go_wp2_with fail
        go_meet
        exact⟨rfl,Ar⟩
       refine dZ (some 76) rfl (.agg SA) w5.drew (bu 58 (.tmp 15) rfl b0 rfl 58 SA (0,0) dS h5 hdS (by cases dS<;>first|rfl|exact absurd Is (by simp[ak])) sI) ⟨trivial,?_⟩;simp only[Act.put,pA,pB,pC];refine jD 3 ?_;refine dZ (some 73) rfl (.int .i64 us) w5.drew (by simp[execOp,Act.eval,go_sem,z1]) ⟨trivial,?_⟩;simp only[Act.put,pA,pB,pC];refine jD 5 ?_;refine iD (some 75) rfl 24 #[.int .i64 us,.int .i64 (1+(r:Int))] (by simp[execOp,Act.eval,go_sem]) (λv w'=>∃u:Nat,v= .int .i64 u/\u<r+1/\w'=w5.drew) EP.out ?_;rintro _ _ ⟨u,rfl,hu,rfl⟩;refine⟨trivial,?_⟩;simp only[Act.put,pA,pB,pC];refine jD 7 ?_;refine iD (some 77) rfl 35 #[.pointer (some ⟨p.wb,0,none⟩),.pointer (some ⟨xb,0,none⟩),.int .i64 (u:Int),.agg SA] (by simp[execOp,Act.eval,go_sem]) (λv w'=>v= .bool true/\Hid (∃L x all log av kv,jK w4 w' B c p T xb tb pc ol (r+1) 0 L x all log av kv)) (EA.out u hu) ?_;rintro _ w7 ⟨rfl,Ar⟩;refine⟨trivial,?_⟩;simp only[Act.put,pA,pB,pC];refine aU 8 13 (.bool true) trivial ?_;refine wpAnyH_done (by kernel_rfl) (NoPanic.normal ?_) _
       go_wp2_with fail
       go_meet
       exact⟨rfl,Ar⟩
      case rest=>
       obtain⟨rfl,Ar⟩:=hcut;clear EA EP;go_wp2
       go_roundw
       case rel=>exact⟨i+1,rfl,by go_num,by omega,Ar⟩
       case measure=>simp[intOf];omega
     have Ar:=hid T5.out;clear T5;go_wp2
     go_roundw
     case rel=>exact⟨i+1,rfl,by go_num,by omega,hid ⟨_,_,_,_,_,_,Ar.out⟩⟩
     case measure=>simp[intOf];omega
    have Ar:=hid T5.out;clear T5;go_wp2
    go_roundw
    case rel=>exact⟨i+1,rfl,by go_num,by omega,hid ⟨_,_,_,_,_,_,Ar.out⟩⟩
    case measure=>simp[intOf];omega
   have hge:¬(i:Int)<(sn:Int):=by omega
   obtain⟨L,x,all,log,av1,kv1,TT⟩:=HT.out;have F0:=qW.start TT.si TT.tn;have HF0:=hid (ae TT F0);clear HT TT F0
   go_upto_region 16 with(fail)
   go_loopw [13,16] (λok mv wr=>∃m:Nat,ok= .bool true/\mv= .int .i64 m/\m<=4*(r+1)+3/\Hid (∃j L x all log av kv,j<=6*m/\jK w4 wr B c p T xb tb pc ol (r+1) j L x all log av kv/\qW x (r+1) m 0)) (λ_ mv _=>4*(r+1)+3-(intOf mv).toNat)
   case atStart=>exact⟨0,rfl,rfl,Nat.zero_le _,hid ⟨0,_,_,_,_,_,_,by omega,HF0.out.1,HF0.out.2⟩⟩
   case round=>
    obtain⟨m,rfl,rfl,hmm,HT⟩:=hrel;clear HF0
    by_cases hmt:m<4*(r+1)+3
    ·have hmt':(m:Int)<4*(1+(r:Int))+3:=by omega
     go_upto_region 19 with(fail)
     go_loopw [13,17] (λok uv wr=>∃u:Nat,ok= .bool true/\uv= .int .i64 u/\u<=r+1/\Hid (∃j L x all log av kv,j<=6*m+u/\jK w4 wr B c p T xb tb pc ol (r+1) j L x all log av kv/\qW x (r+1) m u)) (λ_ uv _=>r+1-(intOf uv).toNat)
     case atStart=>exact⟨0,rfl,rfl,Nat.zero_le _,HT⟩
     case round=>
      obtain⟨u,rfl,rfl,hu,HU⟩:=hrel;clear HT
      by_cases hut:u<r+1
      ·have als:(u:Int)<1+(r:Int):=by omega
       obtain⟨j,L2,x2,all2,log2,av2,kv2,hj,T2,F2⟩:=HU.out;obtain⟨L7,alp,alq,EA'⟩:=T2.small HR.out HOL.out.1 (by omega) HOL.out.2 hut;have F3:=F2.step T2.si HR.out (by rw[T2.tn];exact hut);have EA:=hid EA';have HF3:=hid F3;clear EA' HU T2 F2 F3
       go_wp2_with fail
       refine hm EA ?_;rintro y w7 ⟨rfl,av7,IF,T7⟩;have Ar:=hid T7;clear EA T7;go_wp2
       go_roundw
       case rel=>exact⟨u+1,rfl,by go_num,by omega,hid ⟨j+1,_,_,_,_,_,_,by omega,Ar.out,HF3.out⟩⟩
       case measure=>simp[intOf];omega
      have alu:¬(u:Int)<1+(r:Int):=by omega
      have hue:u=r+1:=by omega
      obtain⟨j,L2,x2,all2,log2,av2,kv2,hj,T2,F2⟩:=HU.out;rw[hue]at F2;have Ar:=hid (ae T2 (F2.round T2.si T2.tn));clear HU T2 F2 hue;go_wp2
      go_roundw
      case rel=>exact⟨m+1,rfl,by go_num,by omega,hid ⟨j,_,_,_,_,_,_,by omega,Ar.out.1,Ar.out.2⟩⟩
      case measure=>simp[intOf];omega
    have ajK:¬(m:Int)<4*(1+(r:Int))+3:=by omega
    obtain⟨j,L2,x2,all2,log2,av2,kv2,hj,T2,F2⟩:=HT.out
    have hidle:∀(u:Nat) (k:Tk),x2.tasks[u]? =some k->k.kind=0:=λu k hk=>F2.done T2.si (by omega) (by omega) hk
    have hj2:j<=2000000:=by omega
    have HT2:=hid (ae T2 hidle);clear HT T2 F2 hidle
    go_upto_region 25 with(fail)
    go_loopw [18] (λuv wr=>∃u:Nat,uv= .int .i64 u/\u<=r+1/\Hid (∃kv,jK w4 wr B c p T xb tb pc ol (r+1) j L2 x2 all2 log2 av2 kv)) (λuv _=>r+1-(intOf uv).toNat)
    case atStart=>exact⟨0,rfl,Nat.zero_le _,hid ⟨_,HT2.out.1⟩⟩
    case round=>
     obtain⟨u,rfl,hu,HU⟩:=hrel;obtain⟨kv3,T3⟩:=HU.out
     by_cases hut:u<r+1
     ·have als:(u:Int)<1+(r:Int):=by omega
      obtain⟨k,hk⟩:∃k,x2.tasks[u]? =some k:=⟨_,List.getElem?_eq_getElem (by rw[T3.tn];exact hut)⟩
      have hk0:=HT2.out.2 u k hk;have ES:=hid (T3.idle HR.out HOL.out.1 hj2 HOL.out.2 hk hk0);obtain⟨_,_,hb,_⟩:=T3.lr.tk u k hk;rw[show decide (k.kind≠0)=false by simp[hk0]]at hb
      have ad_:(u:Int)<(L2.stands.length:Int):=by have:=(List.getElem?_eq_some_iff.1 hb).1;omega
      clear HU T3 hk hk0
      go_wp2_with fail
      refine hm ES ?_;rintro y w7 ⟨rfl,IF,T7⟩;have hnb:=heap_alloc_new w7 (.cells aM 64);have K8:Kp (λ_=>False) w7 ((w7.alloc (.cells aM 64)).setRow w7.heap.size (bW dR)):=((Kp.refl _ _).alloc _).setRow (λx=>by omega) _;have T8:=T7.ai K8;clear ES T7 K8
      go_upto_region 28 with(refine wpList_store_row rfl 64 (.tmp 19) (.tmp 107) rfl w7.heap.size (bW dR) rfl rfl 64 aM hnb bK rfl (fC _) ?_)
      generalize (w7.alloc (.cells aM 64)).setRow w7.heap.size (bW dR)=w8 at*;have y3:w8.cell? ⟨p.wb,3,none⟩=some (.slice (some ⟨p.sb,0,none⟩) L2.stands.length L2.stands.length):=T8.ln.cell 3;have yb:=T8.ln.Mb hb;have HT8:=hid T8;clear T8 hnb hb;go_wp2
      go_roundw
      case rel=>exact⟨u+1,by go_num,by omega,hid ⟨_,HT8.out⟩⟩
      case measure=>simp[intOf];omega
     have alu:¬(u:Int)<1+(r:Int):=by omega
     have HZ:=hid (HB.out.trans (T3.kp.below (by omega) (λk hk=>by show w.heap.size<=k;have:B<=k:=hk;omega)));clear HU T3;go_wp2;go_ret;exact⟨rfl,HZ.out⟩
 have hxv:=hq.1 (by rw[e];decide);subst hxv;have HB:=hid B4;clear B4 hq EB K4;go_wp2;go_ret;exact⟨rfl,HB.out⟩
end
end Go.Proofs.YtnlbchmfcebeeaaGreat
