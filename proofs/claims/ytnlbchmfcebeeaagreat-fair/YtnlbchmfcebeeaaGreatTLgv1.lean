import Derived.Test.YtnlbchmfcebeeaaGreatTLg
set_option maxHeartbeats 12800000
set_option maxRecDepth 100000
namespace Go.Proofs.YtnlbchmfcebeeaaGreat
open Go.Proofs.Tryz Ch
open Go.RowKit
namespace Ch
structure Has(t:ByteArray)(p:Nat)(s:List Int):Prop where
 le:p+s.length<=t.size
 at_:∀k b,s[k]? =some b->af t (p+k)=b
section
variable {t:ByteArray} {p:Nat} {a b s:List Int} {x:Int}
theorem Has.left(h:Has t p (a++b)):Has t p a:=
 ⟨by have:=h.le;simp at this;omega,λk c hk=>h.at_ k c (by rw[List.getElem?_append_left (List.getElem?_eq_some_iff.1 hk).1];exact hk)⟩
theorem Has.right(h:Has t p (a++b)):Has t (p+a.length) b:=
 ⟨by have:=h.le;simp at this;omega,λk c hk=>by
  have:=h.at_ (a.length+k) c (by rw[List.getElem?_append_right (by omega)];simpa using hk)
  rwa[<-Nat.add_assoc]at this⟩
theorem Has.head(h:Has t p (x::s)):af t p=x:=h.at_ 0 x rfl
theorem Has.tail(h:Has t p (x::s)):Has t (p+1) s:=Has.right (a:=[x]) h
theorem Has.i1{y:Int}(h:Has t p (x::y::s)):af t (p+1)=y:=h.tail.head
theorem Has.i2{y z:Int}(h:Has t p (x::y::z::s)):af t (p+1+1)=z:=h.tail.tail.head
end
def Mq(l:List Int):Prop:=(∃s e:Int,(s=33\/s=126\/s=35)/\bR e=true/\l=[s,e])\/(∃e d:Int,bR e=true/\eI 49 d=true/\l=[64,e,d])\/∃s v d:Int,(s=43\/s=45\/s=61)/\gw v=true/\eI 48 d=true/\l=[s,v,d]
theorem Mq.ev{s e:Int}(h:s=33\/s=126\/s=35)(he:bR e=true):Mq [s,e]:=.inl ⟨s,e,h,he,rfl⟩
theorem Mq.tm{e d:Int}(he:bR e=true)(hd:eI 49 d=true):Mq [64,e,d]:=.inr (.inl ⟨e,d,he,hd,rfl⟩)
theorem Mq.vr{s v d:Int}(h:s=43\/s=45\/s=61)(hv:gw v=true)(hd:eI 48 d=true):Mq [s,v,d]:=.inr (.inr ⟨s,v,d,h,hv,hd,rfl⟩)
theorem Mq.ind{M:(l:List Int)->Mq l->Prop}(ev:∀{s e:Int} (h:s=33\/s=126\/s=35) (he:bR e=true),M [s,e] (.ev h he))(tm:∀{e d:Int} (he:bR e=true) (hd:eI 49 d=true),M [64,e,d] (.tm he hd))(vr:∀{s v d:Int} (h:s=43\/s=45\/s=61) (hv:gw v=true) (hd:eI 48 d=true),M [s,v,d] (.vr h hv hd)){l:List Int}(h:Mq l):M l h:=by
 rcases h with⟨s,e,h1,h2,rfl⟩|⟨e,d,h1,h2,rfl⟩|⟨s,v,d,h1,h2,h3,rfl⟩
 ·exact ev h1 h2
 ·exact tm h1 h2
 exact vr h1 h2 h3
def Et(R:List Int->Prop)(l:List Int):Prop:=∃L:List (List Int),(∀a∈L,R a)/\l=L.flatten
theorem Et.nil{R:List Int->Prop}:Et R []:=⟨[],by simp,rfl⟩
theorem Et.cons{R:List Int->Prop}{a s:List Int}(ha:R a)(hs:Et R s):Et R (a++s):=by
 obtain⟨L,h,rfl⟩:=hs;refine⟨a::L,λx hx=>?_,rfl⟩
 rcases List.mem_cons.1 hx with rfl|hx
 ·exact ha
 exact h x hx
theorem Et.ind{R:List Int->Prop}{M:(l:List Int)->Et R l->Prop}(nil:M [] .nil)(cons:∀{a s:List Int} (ha:R a) (hs:Et R s),M s hs->M (a++s) (.cons ha hs)){l:List Int}(h:Et R l):M l h:=by
 obtain⟨L,hL,rfl⟩:=h
 induction L with
 |nil=>exact nil
 |cons a L ih=>exact cons (hL a (by simp)) ⟨L,λx hx=>hL x (by simp[hx]),rfl⟩ (ih λx hx=>hL x (by simp[hx]))
abbrev ic(l:List Int):Prop:=Et Mq l
theorem ic.snoc{s a:List Int}(h:ic s)(ha:Mq a):ic (s++a):=by
 induction h using Et.ind with
 |nil=>have:=Et.cons ha .nil;simpa using this
 |cons hb _ ih=>rw[List.append_assoc];exact .cons hb ih
section
variable {t:ByteArray}
theorem JF{p:Nat}{a:List Int}(ha:Mq a)(h:Has t p a)(cl:Int)(hcl:cl=59\/cl=62):
 (af t p==cl)=false/\(af t p==63)=false/\(act t p ⟨af t p,0,0⟩).1=true/\(act t p ⟨af t p,0,0⟩).2.2=p+a.length/\1<=a.length:=by
 cases ha using Mq.ind with
 |ev hs he=>
  have h0:=h.head;have h1:=h.i1;rw[h0]
  rcases hs with rfl|rfl|rfl<;>rcases hcl with rfl|rfl<;>simp[act,fU,h1,he,bI]
 |tm he hd=>
  have h0:=h.head;have h1:=h.i1;have h2:=h.i2;rw[h0]
  rcases hcl with rfl|rfl<;>simp[act,py,jC,fU,h1,he,bI,h2,hd]
 |vr hs hv hd=>?_
 have h0:=h.head;have h1:=h.i1;have h2:=h.i2;rw[h0]
 rcases hs with rfl|rfl|rfl<;>rcases hcl with rfl|rfl<;>simp[act,kN,jC,gx,h1,hv,bI,h2,hd]
theorem Nq{cl:Int}(hcl:cl=59\/cl=62){s:List Int}(hs:ic s):∀(n p:Nat) (l:List Ac),Has t p (s++[cl])->s.length<n->
 (fM t cl n p l).1=true/\(fM t cl n p l).2.2=p+s.length+1:=by
 induction hs using Et.ind with
 |nil=>
  intro n p l h hn
  obtain⟨m,rfl⟩:∃m,n=m+1:=⟨n-1,by simp at hn;omega⟩
  have h0:af t p=cl:=h.head;rw[iT (by simp[h0])];simp
 | @cons a s ha _ ih=>?_
 intro n p l h hn;rw[List.append_assoc]at h;have hr:=JF ha h.left cl hcl;simp only[List.length_append]at hn
 obtain⟨m,rfl⟩:∃m,n=m+1:=⟨n-1,by omega⟩
 rw[jS hr.1 hr.2.2.1,hr.2.2.2.1];have:=ih m (p+a.length) (l++[(act t p ⟨af t p,0,0⟩).2.1]) h.right (by omega);refine⟨this.1,this.2.trans ?_⟩;simp only[List.length_append];omega
theorem Eu{cl:Int}(hcl:cl=59\/cl=62){s:List Int}(hs:ic s){p:Nat}(h:Has t p (s++[cl])):(acts t cl p).1=true/\(acts t cl p).2.2=p+s.length+1:=
 Nq hcl hs _ _ _ h (by have:=h.le;simp at this;omega)
theorem SM{s:List Int}(hs:ic s){p:Nat}(h:Has t p (s++[62])):(af t p==63)=false:=by
 cases hs using Et.ind with
 |nil=>rw[h.head];rfl
 |cons ha _=>rw[List.append_assoc]at h;exact(JF ha h.left 62 (Or.inr rfl)).2.1
def IA(l:List Int):Prop:=l=[]\/∃v s d:Int,gw v=true/\me s=true/\eI 48 d=true/\l=[63,v,s,d]
theorem IA.none:IA []:=.inl rfl
theorem IA.some{v s d:Int}(hv:gw v=true)(hs:me s=true)(hd:eI 48 d=true):IA [63,v,s,d]:=.inr ⟨v,s,d,hv,hs,hd,rfl⟩
theorem IA.ind{M:(l:List Int)->IA l->Prop}(none:M [] .none)(some:∀{v s d:Int} (hv:gw v=true) (hs:me s=true) (hd:eI 48 d=true),M [63,v,s,d] (.some hv hs hd)){l:List Int}(h:IA l):M l h:=by
 rcases h with rfl|⟨v,s,d,h1,h2,h3,rfl⟩
 ·exact none
 exact some h1 h2 h3
theorem Nr{g:List Int}(hg:IA g){p:Nat}(h:Has t p g)(hx:(af t (p+g.length)==63)=false):(guard t p ⟨0,0,0⟩).1=true/\(guard t p ⟨0,0,0⟩).2.2=p+g.length:=by
 cases hg using IA.ind with
 |none=>simp only[List.length_nil,Nat.add_zero]at hx;simp[guard,hx]
 |some hv hs hd=>?_
 have h0:=h.head;have h1:=h.i1;have h2:=h.i2;have h3:af t (p+1+1+1)=_:=h.tail.tail.tail.head;unfold guard;rw[h0,h1];rw[show p+2=p+1+1 by rfl,show p+3=p+1+1+1 by rfl,h2,h3];simp[hv,hs,hd,bI]
def Vd(n:Nat)(c:Int):Prop:=c=46\/c=122\/(97<=c/\c<=100)\/(65<=c/\c<65+(n:Int))
def TaT(n:Nat)(c:Int):Prop:=c=45\/(65<=c/\c<65+(n:Int))
def GS(n:Nat)(l:List Int):Prop:=(∃(tg ta:Int) (g a:List Int),Vd n tg/\IA g/\ic a/\TaT n ta/\l=[58,tg]++(g++(a++[62,ta])))\/∃(b:Int) (a:List Int),(b=94\/b=36)/\ic a/\l=[b]++(a++[59])
section
variable {n:Nat}
theorem GS.tr{tg ta:Int}{g a:List Int}(h1:Vd n tg)(h2:IA g)(h3:ic a)(h4:TaT n ta):GS n ([58,tg]++(g++(a++[62,ta]))):=.inl ⟨tg,ta,g,a,h1,h2,h3,h4,rfl⟩
theorem GS.bl{b:Int}{a:List Int}(h1:b=94\/b=36)(h2:ic a):GS n ([b]++(a++[59])):=.inr ⟨b,a,h1,h2,rfl⟩
theorem GS.ind{M:(l:List Int)->GS n l->Prop}(tr:∀{tg ta:Int} {g a:List Int} (h1:Vd n tg) (h2:IA g) (h3:ic a) (h4:TaT n ta),M _ (.tr h1 h2 h3 h4))(bl:∀{b:Int} {a:List Int} (h1:b=94\/b=36) (h2:ic a),M _ (.bl h1 h2)){l:List Int}(h:GS n l):M l h:=by
 rcases h with⟨tg,ta,g,a,h1,h2,h3,h4,rfl⟩|⟨b,a,h1,h2,rfl⟩
 ·exact tr h1 h2 h3 h4
 exact bl h1 h2
end
abbrev vB(n:Nat)(l:List Int):Prop:=Et (GS n) l
theorem vB.snoc{n:Nat}{s a:List Int}(h:vB n s)(ha:GS n a):vB n (s++a):=by
 induction h using Et.ind with
 |nil=>have:=Et.cons ha .nil;simpa using this
 |cons hb _ ih=>rw[List.append_assoc];exact .cons hb ih
structure wX(n:Nat)(r:Rs):Prop where
 bG:∀x∈r.bG,Vd n x.kr
 uses:∀u∈r.uses,65<=u.name/\u.name<65+(n:Int)
theorem Bs{n:Nat}{c:Int}{p:Nat}{us:List Us}(h:∀u∈us,65<=u.name/\u.name<65+(n:Int))(hc:bx c=true->65<=c/\c<65+(n:Int)):
 ∀u∈cF c p us,65<=u.name/\u.name<65+(n:Int):=by
 unfold cF
 split
 ·rename_i q
  intro u hu
  rcases List.mem_append.1 hu with x|x
  ·exact h u x
  simp at x;subst x;exact hc q
 exact h
theorem afy{n:Nat}(hn:n<=16){c:Int}(h:Vd n c):jF c=true/\(bx c=true->65<=c/\c<65+(n:Int)):=by
 unfold Vd at h
 rcases h with rfl|rfl|⟨h1,h2⟩|⟨h1,h2⟩
 ·simp[jF,bx]
 ·simp[jF,bx,bR]
 ·refine⟨?_,λq=>?_⟩
  ·simp[jF,bR];omega
  simp[bx]at q;omega
 refine⟨?_,λ_=>⟨h1,h2⟩⟩;simp[jF,bx];omega
theorem afz{n:Nat}(hn:n<=16){c:Int}(h:TaT n c):kf c=true/\(bx c=true->65<=c/\c<65+(n:Int)):=by
 unfold TaT at h
 rcases h with rfl|⟨h1,h2⟩
 ·simp[kf,bx]
 refine⟨?_,λ_=>⟨h1,h2⟩⟩;simp[kf,bx];omega
theorem Ns{n:Nat}(hn:n<=16){tg ta:Int}{g a:List Int}(h1:Vd n tg)(h2:IA g)(h3:ic a)(h4:TaT n ta)(self:Int){r:Rs}(h:Has t r.pos ([58,tg]++(g++(a++[62,ta]))))(hi:wX n r):
 (transition t self r).1=true/\(transition t self r).2.pos=r.pos+([58,tg]++(g++(a++[62,ta]))).length/\(transition t self r).2.ag=r.ag/\wX n (transition t self r).2:=by
 have e1:af t (r.pos+1)=tg:=Has.i1 h;have hg:Has t (r.pos+1+1) (g++(a++[62,ta])):=Has.right (a:=[58,tg]) h;have ha:Has t (r.pos+1+1+g.length) (a++[62,ta]):=hg.right
 have ha':Has t (r.pos+1+1+g.length) (a++[62]):=by
  have:a++[62,ta]=(a++[62])++[ta]:=by simp
  rw[this]at ha;exact ha.left
 have hgd:=Nr h2 hg.left (SM h3 ha');have hac:=Eu (Or.inr rfl) h3 ha';have yq:af t (r.pos+1+1+g.length+a.length+1)=ta:=Has.i1 ha.right;obtain⟨k1,k2⟩:=afy hn h1;obtain⟨k3,k4⟩:=afz hn h4;unfold transition;rw[e1,k1,hgd.1,hgd.2,hac.1,hac.2,yq,k3];simp only[if_true];refine⟨trivial,?_,trivial,?_,?_⟩
 ·simp[bI];omega
 ·intro x hx
  rcases List.mem_append.1 hx with y|y
  ·exact hi.bG x y
  simp at y;subst y;exact h1
 exact Bs (Bs hi.uses k2) k4
theorem Nt{n:Nat}{b:Int}{a:List Int}(h3:ic a)(self:Int){r:Rs}(h:Has t r.pos ([b]++(a++[59])))(hi:wX n r):
 (block t self r).1=true/\(block t self r).2.pos=r.pos+([b]++(a++[59])).length/\(block t self r).2.ag=r.ag/\wX n (block t self r).2:=by
 have hac:=Eu (Or.inl rfl) h3 (Has.right (a:=[b]) h);simp only[List.length_cons,List.length_nil,Nat.zero_add]at hac;unfold block;rw[hac.1,hac.2];simp only[if_true];refine⟨trivial,?_,trivial,hi.bG,hi.uses⟩;simp;omega
theorem ZS{n:Nat}(hn:n<=16){i:List Int}(hit:GS n i)(self cl:Int)(m:Nat){r:Rs}(h:Has t r.pos i)(hi:wX n r):
 ∃r',an t (m+1) self cl r=an t m self cl r'/\r'.pos=r.pos+i.length/\1<=i.length/\r'.ag=r.ag/\wX n r':=by
 cases hit using GS.ind with
 |tr h1 h2 h3 h4=>
  have e0:af t r.pos=58:=Has.head h;obtain⟨q1,q2,q3,q4⟩:=Ns hn h1 h2 h3 h4 self h hi;refine⟨(transition t self r).2,?_,q2,by simp,q3,q4⟩;simp only[an,e0,q1];simp[isOpen]
 | @bl b a hb h3=>?_
 have e0:af t r.pos=b:=Has.head h;obtain⟨q1,q2,q3,q4⟩:=Nt h3 self h hi;refine⟨(block t self r).2,?_,q2,by simp,q3,q4⟩;simp only[an,e0,q1]
 rcases hb with rfl|rfl<;>simp[isOpen]
theorem JG{n:Nat}(hn:n<=16){s:List Int}(hs:vB n s)(self cl:Int):∀(m:Nat) (r:Rs),Has t r.pos s->t.size+1<=m+r.pos->wX n r->
 ∃m' r',an t m self cl r=an t m' self cl r'/\r'.pos=r.pos+s.length/\t.size+1<=m'+r'.pos/\r'.ag=r.ag/\wX n r':=by
 induction hs using Et.ind with
 |nil=>intro m r _ hm hi;exact⟨m,r,rfl,rfl,hm,rfl,hi⟩
 | @cons i s hit _ ih=>?_
 intro m r h hm hi;have hle:=h.left.le
 obtain⟨m,rfl⟩:∃k,m=k+1:=⟨m-1,by omega⟩
 obtain⟨r1,e1,p1,l1,s1,i1⟩:=ZS hn hit self cl m h.left hi;have h2:=h.right;rw[<-p1]at h2;obtain⟨m',r',e2,p2,f2,s2,i2⟩:=ih m r1 h2 (by omega) i1;exact⟨m',r',e1.trans e2,by rw[p2,p1];simp;omega,f2,s2.trans s1,i2⟩
end
structure Du(P:List (Int×Int)):Prop where
 len:P.length<=16
 root:∃k:Int,P[0]? =some (k,-1)/\(k=2\/k=3)
 kind:∀(j:Nat) (q p:Int),P[j]? =some (q,p)->1<=q/\q<=5
 par:∀(j:Nat) (q p:Int),P[j]? =some (q,p)->j=0\/∃i:Nat,p=(i:Int)/\i<j/\∃kd pp:Int,P[i]? =some (kd,pp)/\(kd=2\/kd=3)/\(q=4\/q=5->kd=2)
 kid:∀(i:Nat) (k p:Int),P[i]? =some (k,p)->(k=2\/k=3)->∃(j:Nat) (q:Int),P[j]? =some (q,(i:Int))/\q≠5
structure WrC(P:List (Int×Int))(M:Option Nat->Nat->Nat->List Int->Prop):Prop where
 fin:∀{i:Nat} {p:Int},P[i]? =some (4,p)->M none i (i+1) [60,65+(i:Int),62]
 his:∀{i:Nat} {p:Int},P[i]? =some (5,p)->M none i (i+1) [42,65+(i:Int)]
 box:∀{i e:Nat} {k p:Int} {a ks b:List Int},P[i]? =some (k,p)->(k=1\/k=2\/k=3)->vB P.length a->vB P.length b->M (some i) (i+1) e ks->
  M none i e ([if k=3 then 91 else 40,65+(i:Int)]++(a++(ks++(b++[if k=3 then 93 else 41]))))
 nil:∀{i j:Nat},M (some i) j j []
 cons:∀{i j e f:Nat} {q:Int} {s ss:List Int},P[j]? =some (q,(i:Int))->M none j e s->M (some i) e f ss->M (some i) j f (s++ss)
def Wr(P:List (Int×Int))(o:Option Nat)(i e:Nat)(s:List Int):Prop:=∀M,WrC P M->M o i e s
section
variable {P:List (Int×Int)}
theorem Wr.fin{i:Nat}{p:Int}(h:P[i]? =some (4,p)):Wr P none i (i+1) [60,65+(i:Int),62]:=λ_ c=>c.fin h
theorem Wr.his{i:Nat}{p:Int}(h:P[i]? =some (5,p)):Wr P none i (i+1) [42,65+(i:Int)]:=λ_ c=>c.his h
theorem Wr.box{i e:Nat}{k p:Int}{a ks b:List Int}(h:P[i]? =some (k,p))(hk:k=1\/k=2\/k=3)(ha:vB P.length a)(hb:vB P.length b)(hs:Wr P (some i) (i+1) e ks):
 Wr P none i e ([if k=3 then 91 else 40,65+(i:Int)]++(a++(ks++(b++[if k=3 then 93 else 41])))):=λM c=>c.box h hk ha hb (hs M c)
theorem Wr.nil{i j:Nat}:Wr P (some i) j j []:=λ_ c=>c.nil
theorem Wr.cons{i j e f:Nat}{q:Int}{s ss:List Int}(h:P[j]? =some (q,(i:Int)))(h1:Wr P none j e s)(h2:Wr P (some i) e f ss):Wr P (some i) j f (s++ss):=λM c=>c.cons h (h1 M c) (h2 M c)
theorem Wr.ind{M:(o:Option Nat)->(i e:Nat)->(s:List Int)->Wr P o i e s->Prop}
 (fin:∀{i:Nat} {p:Int} (h:P[i]? =some (4,p)),M none i (i+1) [60,65+(i:Int),62] (.fin h))
 (his:∀{i:Nat} {p:Int} (h:P[i]? =some (5,p)),M none i (i+1) [42,65+(i:Int)] (.his h))
 (box:∀{i e:Nat} {k p:Int} {a ks b:List Int} (h:P[i]? =some (k,p)) (hk:k=1\/k=2\/k=3) (ha:vB P.length a) (hb:vB P.length b) (hs:Wr P (some i) (i+1) e ks),M (some i) (i+1) e ks hs->M none i e ([if k=3 then 91 else 40,65+(i:Int)]++(a++(ks++(b++[if k=3 then 93 else 41])))) (.box h hk ha hb hs))
 (nil:∀{i j:Nat},M (some i) j j [] .nil)
 (cons:∀{i j e f:Nat} {q:Int} {s ss:List Int} (h:P[j]? =some (q,(i:Int))) (h1:Wr P none j e s) (h2:Wr P (some i) e f ss),M none j e s h1->M (some i) e f ss h2->M (some i) j f (s++ss) (.cons h h1 h2))
 {o:Option Nat} {i e:Nat} {s:List Int} (h:Wr P o i e s):M o i e s h:=
 (h (λo i e s=>∃h,M o i e s h) ⟨λh=>⟨_,fin h⟩,λh=>⟨_,his h⟩,λh hk ha hb ⟨_,m⟩=>⟨_,box h hk ha hb _ m⟩,⟨_,nil⟩,λh ⟨_,m1⟩ ⟨_,m2⟩=>⟨_,cons h _ _ m1 m2⟩⟩).2
end
structure wY(P:List (Int×Int))(ss:List St):Prop where
 len:ss.length<=P.length
 at_:∀(k:Nat) s,ss[k]? =some s->∃kd p,P[k]? =some (kd,p)/\s.name=65+(k:Int)/\s.parent=p/\(s.kind=kd\/(kd=2/\s.kind=1/\∀(j:Nat) (q:Int),j<ss.length->P[j]? ≠some (q,(k:Int))))
def opn(k:Int):Int:=if k=3 then 91 else if k=4 then 60 else if k=5 then 42 else 40
theorem Nu{k:Int}(h1:1<=k)(h2:k<=5):kindOf (opn k)=if k=2 then 1 else k:=by
 have:k=1\/k=2\/k=3\/k=4\/k=5:=by omega
 rcases this with rfl|rfl|rfl|rfl|rfl<;>rfl
theorem wY.more{P:List (Int×Int)}(hP:Du P){ss:List St}(h:wY P ss){k parent:Int}(hk:P[ss.length]? =some (k,parent))(pos:Int):
 wY P (bn parent (ss++[⟨65+(ss.length:Int),pos,kindOf (opn k),parent⟩])):=by
 have hlt:=(List.getElem?_eq_some_iff.1 hk).1;have hkk:=hP.kind _ _ _ hk
 have hlast:∀(j:Nat) (q:Int),j<ss.length+1->P[j]? ≠some (q,(ss.length:Int)):=by
  intro j q hj e
  rcases hP.par _ _ _ e with rfl|⟨i,e2,e3,_⟩
  ·obtain⟨k0,e0,_⟩:=hP.root
   rw[e0]at e;simp at e
  omega
 refine⟨by rw[dH];simp;omega,?_⟩;rw[dH];simp only[List.length_append,List.length_cons,List.length_nil,Nat.zero_add]
 have hpre:∀(c:Nat) s,(ss++[⟨65+(ss.length:Int),pos,kindOf (opn k),parent⟩])[c]? =some s->∃kd p,P[c]? =some (kd,p)/\s.name=65+(c:Int)/\s.parent=p/\
  (s.kind=kd\/(kd=2/\s.kind=1/\∀(j:Nat) (q:Int),j<ss.length+1->(c:Int)=parent\/P[j]? ≠some (q,(c:Int)))):=by
  intro c s hc
  by_cases hcl:c<ss.length
  ·rw[List.getElem?_append_left hcl]at hc
   obtain⟨kd,p,e1,e2,e3,e4⟩:=h.at_ c s hc;refine⟨kd,p,e1,e2,e3,?_⟩
   rcases e4 with e4|⟨e4,e5,e6⟩
   ·exact Or.inl e4
   refine Or.inr ⟨e4,e5,λj q hj=>?_⟩
   by_cases hjl:j<ss.length
   ·exact Or.inr (e6 j q hjl)
   have:j=ss.length:=by omega
   subst this
   by_cases hcp:(c:Int)=parent
   ·exact Or.inl hcp
   refine Or.inr λe=>?_
   rw[hk]at e;simp at e;omega
  have hc2:=(List.getElem?_eq_some_iff.1 hc).1;simp only[List.length_append,List.length_cons,List.length_nil]at hc2
  have:c=ss.length:=by omega
  subst this;simp at hc;subst hc;refine⟨k,parent,hk,rfl,rfl,?_⟩;simp only[Nu hkk.1 hkk.2]
  by_cases q2:k=2
  ·subst q2
   exact Or.inr ⟨rfl,rfl,λj q hj=>Or.inr (hlast j q hj)⟩
  left;simp[q2]
 generalize hL:ss++[(⟨65+(ss.length:Int),pos,kindOf (opn k),parent⟩:St)]=L at*;unfold bn
 cases parent with
 |negSucc x=>
  intro c s hc;obtain⟨kd,p,e1,e2,e3,e4⟩:=hpre c s hc;refine⟨kd,p,e1,e2,e3,?_⟩
  rcases e4 with e4|⟨e4,e5,e6⟩
  ·exact Or.inl e4
  exact Or.inr ⟨e4,e5,λj q hj=>(e6 j q hj).resolve_left (by omega)⟩
 |ofNat x=>?_
 simp only
 have hpk:∀kd pp,P[x]? =some (kd,pp)->kd=2\/kd=3:=by
  intro kd pp e
  rcases hP.par _ _ _ hk with e0|⟨i,e2,e3,kd',pp',e4,e5,_⟩
  ·obtain⟨k0,e1,_⟩:=hP.root
   rw[e0]at hk;rw[e1]at hk;simp at hk
  have:i=x:=by have:(i:Int)=(x:Int):=e2.symm;omega
  subst this;rw[e4]at e;simp at e;obtain⟨rfl,rfl⟩:=e;exact e5
 split
 ·rename_i s0 hs0
  obtain⟨kd0,p0,f1,f2,f3,f4⟩:=hpre x s0 hs0
  split
  ·rename_i q1
   have q1':s0.kind=1:=by simpa using q1
   intro c s hc
   by_cases hcx:x=c
   ·subst hcx
    have hxl:=(List.getElem?_eq_some_iff.1 hs0).1;rw[List.getElem?_set_self hxl]at hc;simp at hc;subst hc;refine⟨kd0,p0,f1,f2,f3,?_⟩
    left
    have:=hpk _ _ f1
    rcases f4 with f4|⟨f4,_⟩
    ·rw[q1']at f4;omega
    simp only;omega
   rw[List.getElem?_set_ne hcx]at hc;obtain⟨kd,p,e1,e2,e3,e4⟩:=hpre c s hc;refine⟨kd,p,e1,e2,e3,?_⟩
   rcases e4 with e4|⟨e4,e5,e6⟩
   ·exact Or.inl e4
   exact Or.inr ⟨e4,e5,λj q hj=>(e6 j q hj).resolve_left (by intro e;have:(c:Int)=(x:Int):=e;omega)⟩
  rename_i q1
  have q1':s0.kind≠1:=by simpa using q1
  intro c s hc;obtain⟨kd,p,e1,e2,e3,e4⟩:=hpre c s hc;refine⟨kd,p,e1,e2,e3,?_⟩
  rcases e4 with e4|⟨e4,e5,e6⟩
  ·exact Or.inl e4
  refine Or.inr ⟨e4,e5,λj q hj=>(e6 j q hj).resolve_left (by
   intro e
   have:c=x:=by have:(c:Int)=(x:Int):=e;omega
   subst this
   rw[hs0]at hc;simp at hc;subst hc;exact q1' e5)⟩
 rename_i hs0;intro c s hc;obtain⟨kd,p,e1,e2,e3,e4⟩:=hpre c s hc;refine⟨kd,p,e1,e2,e3,?_⟩
 rcases e4 with e4|⟨e4,e5,e6⟩
 ·exact Or.inl e4
 refine Or.inr ⟨e4,e5,λj q hj=>(e6 j q hj).resolve_left (by
  intro e
  have:c=x:=by have:(c:Int)=(x:Int):=e;omega
  subst this
  rw[hs0]at hc;simp at hc)⟩
theorem ZT{P:List (Int×Int)}(hP:Du P){o:Option Nat}{i e:Nat}{s:List Int}(h:Wr P o i e s):
 match o with
 |none=>∀(t:ByteArray) (r:Rs) (m:Nat) (k parent:Int),P[i]? =some (k,parent)->Has t r.pos s->t.size<=m+r.pos->r.ag.length=i->wY P r.ag->wX P.length r->
  (aK t (an t m) parent r).1=true/\(aK t (an t m) parent r).2.pos=r.pos+s.length/\1<=s.length/\af t r.pos=opn k/\(aK t (an t m) parent r).2.ag.length=e/\wY P (aK t (an t m) parent r).2.ag/\wX P.length (aK t (an t m) parent r).2
 |some x=>∀(t:ByteArray) (r:Rs) (m:Nat) (cl:Int),Has t r.pos s->t.size+1<=m+r.pos->r.ag.length=i->wY P r.ag->wX P.length r->
  ∃m' r',an t m x cl r=an t m' x cl r'/\r'.pos=r.pos+s.length/\t.size+1<=m'+r'.pos/\r'.ag.length=e/\wY P r'.ag/\wX P.length r':=by
 have hsn:∀(t:ByteArray) (r:Rs) (i:Nat) (k parent:Int),P[i]? =some (k,parent)->af t (r.pos+1)=65+(i:Int)->r.ag.length=i->
  aC t (opn k) parent {r with pos:=r.pos+1}=(true,{r with pos:=r.pos+1+1,ag:=bn parent (r.ag++[⟨65+(i:Int),((r.pos+1:Nat):Int),kindOf (opn k),parent⟩])}):=by
  intro t r i k parent hk h1 hl;have hlt:=(List.getElem?_eq_some_iff.1 hk).1;have:=hP.len
  have hnm:bx (65+(i:Int))=true:=by simp[bx];omega
  unfold aC;simp only[h1,hnm,if_true]
 induction h using Wr.ind with
 | @fin i p hk=>
   intro t r m k parent hk' hh hm hl hs hi;rw[hk]at hk';simp at hk';obtain⟨rfl,rfl⟩:=hk';have h0:af t r.pos=opn 4:=hh.head;have h1:af t (r.pos+1)=65+(i:Int):=hh.i1;have h2:af t (r.pos+1+1)=62:=hh.i2;have e:=hsn t r i 4 p hk h1 hl;have hmo:=hs.more hP (by rw[hl];exact hk) ((r.pos+1:Nat):Int);rw[hl]at hmo
   have es:aK t (an t m) p r=(true,{r with pos:=r.pos+1+1+1,ag:=bn p (r.ag++[⟨65+(i:Int),((r.pos+1:Nat):Int),kindOf (opn 4),p⟩])}):=by
    unfold aK;rw[h0,e];simp only[h2];simp[opn,bI]
   rw[es];refine⟨rfl,?_,by simp,h0,?_,hmo,⟨hi.bG,hi.uses⟩⟩
   ·simp
   simp[dH,hl]
 | @his i p hk=>
   intro t r m k parent hk' hh hm hl hs hi;rw[hk]at hk';simp at hk';obtain⟨rfl,rfl⟩:=hk';have h0:af t r.pos=opn 5:=hh.head;have h1:af t (r.pos+1)=65+(i:Int):=hh.i1;have e:=hsn t r i 5 p hk h1 hl;have hmo:=hs.more hP (by rw[hl];exact hk) ((r.pos+1:Nat):Int);rw[hl]at hmo
   have es:aK t (an t m) p r=(true,{r with pos:=r.pos+1+1,ag:=bn p (r.ag++[⟨65+(i:Int),((r.pos+1:Nat):Int),kindOf (opn 5),p⟩])}):=by
    unfold aK;rw[h0,e];simp[opn]
   rw[es];refine⟨rfl,?_,by simp,h0,?_,hmo,⟨hi.bG,hi.uses⟩⟩
   ·simp
   simp[dH,hl]
 | @box i e k p a ks b hk hk3 ha hb _ ih=>
   intro t r m k' parent hk' hh hm hl hs hi;rw[hk]at hk';simp at hk';obtain⟨rfl,rfl⟩:=hk';have h0:af t r.pos=opn k:=(hh.head).trans (by rcases hk3 with rfl|rfl|rfl<;>rfl);have h1:af t (r.pos+1)=65+(i:Int):=hh.i1;have esn:=hsn t r i k p hk h1 hl;have hmo:=hs.more hP (by rw[hl];exact hk) ((r.pos+1:Nat):Int);rw[hl]at hmo;have hA:Has t (r.pos+1+1) (a++(ks++(b++[if k=3 then 93 else 41]))):=hh.tail.tail;generalize hr1:({r with pos:=r.pos+1+1,ag:=bn p (r.ag++[⟨65+(i:Int),((r.pos+1:Nat):Int),kindOf (opn k),p⟩])}:Rs)=r1 at*
   have p1:r1.pos=r.pos+1+1:=by rw[<-hr1]
   have s1:r1.ag.length=i+1:=by rw[<-hr1];simp[dH,hl]
   have o1:wY P r1.ag:=by rw[<-hr1];exact hmo
   have i1:wX P.length r1:=by rw[<-hr1];exact⟨hi.bG,hi.uses⟩
   clear hr1 hmo
   have main:∀cl:Int,cl=(if k=3 then 93 else 41)->(an t m i cl r1).1=true/\(an t m i cl r1).2.pos=r.pos+([if k=3 then 91 else 40,65+(i:Int)]++(a++(ks++(b++[if k=3 then 93 else 41])))).length/\(an t m i cl r1).2.ag.length=e/\wY P (an t m i cl r1).2.ag/\wX P.length (an t m i cl r1).2:=by
    intro cl hcl;rw[<-hcl]at hA⊢;rw[<-p1]at hA;obtain⟨m2,r2,e2,p2,f2,s2,i2⟩:=JG hP.len ha i cl m r1 hA.left (by omega) i1;have hB:=hA.right;rw[<-p2]at hB;obtain⟨m3,r3,e3,p3,f3,s3,o3,i3⟩:=ih t r2 m2 cl hB.left f2 (by rw[s2];exact s1) (by rw[s2];exact o1) i2;have hC:=hB.right;rw[<-p3]at hC;obtain⟨m4,r4,e4,p4,f4,s4,i4⟩:=JG hP.len hb i cl m3 r3 hC.left f3 i3;have hD:=hC.right;rw[<-p4]at hD;have hc4:af t r4.pos=cl:=hD.head;have hle:=hD.le
    obtain⟨m5,rfl⟩:∃x,m4=x+1:=⟨m4-1,by simp at hle;omega⟩
    rw[e2,e3,e4]
    have:an t (m5+1) i cl r4=(true,{r4 with pos:=r4.pos+1}):=by
     simp only[an,hc4]
     by_cases q:k=3
     ·rw[if_pos q]at hcl;subst hcl;simp[isOpen,bI]
     rw[if_neg q]at hcl;subst hcl;simp[isOpen,bI]
    rw[this];refine⟨rfl,?_,?_,?_,?_⟩
    ·simp only[List.length_append,List.length_cons,List.length_nil];omega
    ·simp only;rw[s4];exact s3
    ·simp only;rw[s4];exact o3
    exact⟨i4.bG,i4.uses⟩
   have hg:aK t (an t m) p r=an t m i (if k=3 then 93 else 41) r1:=by
    unfold aK;rw[h0,esn]
    rcases hk3 with rfl|rfl|rfl<;>simp[opn,hl]
   rw[hg];obtain⟨m1,m2,m3,m4,m5⟩:=main _ rfl;exact⟨m1,m2,by simp,h0,m3,m4,m5⟩
 |nil=>
  intro t r m cl _ hm hl hs hi;exact⟨m,r,rfl,rfl,hm,hl,hs,hi⟩
 | @cons i j e f q s ss hk _ _ ih1 ih2=>?_
 intro t r m cl hh hm hl hs hi;have hle:=hh.left.le
 obtain⟨m,rfl⟩:∃x,m=x+1:=⟨m-1,by omega⟩
 obtain⟨a1,a2,a3,a4,a5,a6,a7⟩:=ih1 t r m q i hk hh.left (by omega) hl hs hi;have hB:=hh.right;rw[<-a2]at hB;obtain⟨m',r',e2,p2,f2,s2,o2,i2⟩:=ih2 t (aK t (an t m) i r).2 m cl hB (by omega) a5 a6 a7;refine⟨m',r',Eq.trans ?_ e2,by rw[p2,a2];simp;omega,f2,s2,o2,i2⟩;have hqq:=hP.kind _ _ _ hk
 have hop:isOpen (af t r.pos)=true:=by
  rw[a4]
  have:q=1\/q=2\/q=3\/q=4\/q=5:=by omega
  rcases this with rfl|rfl|rfl|rfl|rfl<;>rfl
 simp only[an,hop,a1,if_true]
theorem SN:∀(l:List St) (k:Nat),(∀(j:Nat) s,l[j]? =some s->s.name=65+((k+j:Nat):Int))->∀j,j<l.length->jG (65+((k+j:Nat):Int)) l k=((k+j:Nat):Int):=by
 intro l
 induction l with
 |nil=>intro k _ j hj;simp at hj
 |cons a l ih=>?_
 intro k h j hj;have h0:=h 0 a rfl
 cases j with
 |zero=>simp[jG,h0]
 |succ j=>?_
 have:=ih (k+1) (λj s hs=>by rw[h (j+1) s (by simpa using hs)];congr 2;omega) j (by simpa using hj);unfold jG;rw[h0,if_neg (by simp;omega)];rw[show k+(j+1)=k+1+j by omega];exact this
theorem tD{p:Nat->St->Bool}:∀(l:List St) (k:Nat),(∀(j:Nat) s,l[j]? =some s->p (k+j) s=false)->dI p l k= -2:=by
 intro l
 induction l with
 |nil=>intro k _;rfl
 |cons a l ih=>?_
 intro k h;have h0:p k a=false:=h 0 a rfl;unfold dI;rw[h0];simp only[Bool.false_eq_true,if_false];exact ih (k+1) (λj s hs=>by have:=h (j+1) s (by simpa using hs);rwa[show k+(j+1)=k+1+j by omega]at this)
theorem yw{ss:List St}{parent:Int}{j:Nat}(h:aB ss j parent=true):∀(f k:Nat),k<=j->j<k+f->cM ss parent f k≠ -2:=by
 intro f
 induction f with
 |zero=>intro k h1 h2;omega
 |succ f ih=>?_
 intro k h1 h2;unfold cM
 split
 ·omega
 rename_i q
 have:k≠j:=by intro e;subst e;exact q h
 exact ih (k+1) (by omega) (by omega)
structure zF(P:List (Int×Int))(ol:Ol):Prop where
 len:ol.ag.length=P.length
 at_:∀(k:Nat) s,ol.ag[k]? =some s->P[k]? =some (s.kind,s.parent)/\s.name=65+(k:Int)
 bG:∀x∈ol.bG,Vd P.length x.kr
theorem Nv{P:List (Int×Int)}(hP:Du P){t:ByteArray}{s:List Int}(h:Wr P none 0 P.length s)(hh:Has t 0 s)(hsz:s.length=t.size)(Wh:t.size<=240):
 (chart t).1=true/\∃ol,read t=(0,0,ol)/\zF P ol:=by
 obtain⟨k,hk,ajd⟩:=hP.root;have hr:=ZT hP h t r0 (t.size+1) k (-1) hk hh (by omega) rfl ⟨by simp[r0],by intro j s hj;simp[r0]at hj⟩ ⟨by simp[r0],by simp[r0]⟩;obtain⟨a1,a2,a3,a4,a5,a6,a7⟩:=hr
 have hop:(af t 0==40||af t 0==91)=true:=by
  have:af t 0=opn k:=a4
  rw[this];rcases ajd with rfl|rfl<;>rfl
 have hc:chart t=(true,(aK t (an t (t.size+1)) (-1) r0).2):=by
  unfold chart;rw[hop,a1,a2];simp[r0,hsz]
 generalize (aK t (an t (t.size+1)) (-1) r0).2=r at*
 have hat:∀(k:Nat) s,r.ag[k]? =some s->P[k]? =some (s.kind,s.parent)/\s.name=65+(k:Int):=by
  intro k s hs;obtain⟨kd,p,e1,e2,e3,e4⟩:=a6.at_ k s hs;refine⟨?_,e2⟩;rw[e1,e3]
  rcases e4 with e4|⟨e4,e5,e6⟩
  ·rw[e4]
  obtain⟨j,q,g1,g2⟩:=hP.kid k kd p e1 (Or.inl e4);exact absurd g1 (e6 j q (by rw[a5];exact(List.getElem?_eq_some_iff.1 g1).1))
 have hst:∀(i:Nat),i<P.length->∃s,r.ag[i]? =some s:=λi hi=>⟨_,List.getElem?_eq_getElem (by rw[a5];exact hi)⟩
 have hpl:∀j,j<P.length->place r.ag (65+(j:Int))=(j:Int):=by
  intro j hj;have:=SN r.ag 0 (λj s hs=>by rw[(hat j s hs).2];simp) j (by rw[a5];exact hj);simpa[place]using this
 have hj:judge r.ag r.uses=(0,0):=by
  have h1:eM r.ag= -2:=tD _ _ (λj s hs=>by
   have hl:=(List.getElem?_eq_some_iff.1 hs).1;rw[a5]at hl;rw[(hat j s hs).2,hpl j hl]
   simp)
  have h2:g7 r.ag= -2:=tD _ _ (λj s hs=>by
   rw[Nat.zero_add];obtain⟨g1,g2⟩:=hat j s hs;unfold kx;rw[dD,hs];simp only
   split
   ·rename_i q
    have q':s.kind=4\/s.kind=5:=by simp at q;omega
    rcases hP.par _ _ _ g1 with e0|⟨i,e1,e2,kd,pp,e3,e4,e5⟩
    ·obtain⟨k0,f1,f2⟩:=hP.root
     rw[e0,f1]at g1;simp at g1;omega
    obtain⟨s',hs'⟩:=hst i (List.getElem?_eq_some_iff.1 e3).1;have g3:=(hat i s' hs').1;rw[e3]at g3;simp at g3;rw[e1];unfold aA;rw[dD,hs'];simp only;rw[<-g3.1,e5 q'];rfl
   split
   ·rename_i q
    have q':s.kind=2\/s.kind=3:=by simp at q;omega
    obtain⟨c,kc,e1,e2⟩:=hP.kid j _ _ g1 q';obtain⟨s',hs'⟩:=hst c (List.getElem?_eq_some_iff.1 e1).1;have g3:=(hat c s' hs').1;rw[e1]at g3;simp at g3
    have hch:aB r.ag c j=true:=by
     unfold aB;rw[dD,hs'];simp only[<-g3.1,<-g3.2];simpa using e2
    have:=yw hch r.ag.length 0 (Nat.zero_le _) (by have:=(List.getElem?_eq_some_iff.1 hs').1;omega);simpa[cH]using this
   rfl)
  have h3:cN r.ag r.uses= -2:=by
   have hu:=a7.uses;generalize r.uses=us at hu
   induction us with
   |nil=>rfl
   |cons u us ih=>?_
   unfold cN;have hu0:=hu u (by simp)
   obtain⟨j,hj⟩:∃j:Nat,u.name=65+(j:Int):=⟨(u.name-65).toNat,by omega⟩
   rw[hj,hpl j (by omega),if_neg (by simp)];exact ih (λx hx=>hu x (by simp[hx]))
  unfold judge;rw[h1,h2,h3,if_neg (by rw[a5];have:=hP.len;omega)];rfl
 refine⟨by rw[hc],⟨r.ag,r.bG,r.dz⟩,?_,a5,hat,a7.bG⟩;unfold read;rw[if_neg (by omega),hc];simp[hj]
structure aoe(w:Wk):Prop where
 op:∀c∈w.open_,c=41\/c=93
 cl:w.close≠32
theorem Nw(L:List Int)(k:Nat)(h:k<(strOfNums L).size)(h2:k<L.length):(strOfNums L)[k]=UInt8.ofNat (L[k]).toNat:=by
 show(strOfNums L).data[k]'h=_;simp[strOfNums]
theorem ZU{L:List Int}(h:∀x∈L,0<=x/\x<256):Has (strOfNums L) 0 L where
 le:=by rw[strOfNums_size];omega
 at_:=λk b hk=>by
  obtain⟨hlt,e⟩:=List.getElem?_eq_some_iff.1 hk;rw[Nat.zero_add];unfold af;rw[dif_pos (by rw[strOfNums_size];exact hlt),Nw L k _ hlt];have:=h b (List.mem_of_getElem? hk);rw[e,UInt8.toNat_ofNat'];omega
end Ch
section
variable {P:Program} {o:Oper} {a:Act} {w:World} {K:Act->World->Prop} {Q:Exit->Act->World->Prop}
theorem iD(d:Option Tmp)(hd:o.dst=d)(f:FuncId)(args:Array Value)(hrun:(execOp a.eval o).run P w= .ok (.enter f args) w)(R:Value->World->Prop)
 (hc:Calls P f args w λe w'=>∃v,e= .returned v/\R v w') (h:∀v w',R v w'->K (a.put d v) w'):o.wp P a w K Q:=by
 subst hd;unfold Oper.wp;rw[hrun,Oper.upon_enter]
 refine hc.mono λe w' hh=>?_
 obtain⟨v,rfl,hr⟩:=hh;exact h v w' hr
end
end Go.Proofs.YtnlbchmfcebeeaaGreat
