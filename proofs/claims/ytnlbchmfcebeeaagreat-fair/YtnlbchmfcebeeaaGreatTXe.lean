import Derived.Test.YtnlbchmfcebeeaaGreatTX2
import Derived.ArgAppend
import Derived.Test.YtnlbchmfcebeeaaGreatTB5
import Derived.Deep.AppendLies
import Derived.Laws.OwnMore
import Derived.OwnWalk
set_option maxHeartbeats 12800000
set_option maxRecDepth 100000
namespace Go.Proofs.YtnlbchmfcebeeaaGreat
open Go.Proofs.Tryz Ch
open Go.RowKit
structure NV where
 n:RN
 ev:Value
 lv:Value
 tv:Value
def lV(x:NV):List Value:=[.int .u8 x.n.name,.int .i64 x.n.kind,.int .i64 x.n.parent,.int .i64 x.n.pos,x.ev,x.lv,x.tv]
def fh(l:List NV):List Value:=l.flatMap lV
def kF(l:List ByteArray):List Value:=l.map .string
def gX(l:List RT):List Value:=l.flatMap λx=>[.string x.text,.int .i64 x.pos]
theorem GH(l:List NV)(x:NV):fh (l++[x])=fh l++lV x:=by simp[fh]
theorem Apart.symm{v u:Value}(h:Apart v u):Apart u v:=λk hk x=>h k x hk
theorem ji(u:Value):Apart (.slice none 0 0) u:=λk hk=>by simp[Value.ownBlock]at hk
structure rT(w:World)(B:Nat)(l:List NV)(v:Value):Prop where
 row:w.ownsRow B 223 7 v l.length (fh l)
 rR:∀x∈l,w.ownsRow B 9 1 x.ev x.n.enter.length (kF x.n.enter)
 rD:∀x∈l,w.ownsRow B 9 1 x.lv x.n.leave.length (kF x.n.leave)
 iX:∀x∈l,w.ownsRow B 292 2 x.tv x.n.trans.length (gX x.n.trans)
 aE:∀(i j:Nat) (x y:NV),i≠j->l[i]? =some x->l[j]? =some y->Apart x.ev y.ev
 aL:∀(i j:Nat) (x y:NV),i≠j->l[i]? =some x->l[j]? =some y->Apart x.lv y.lv
 aX:∀(i j:Nat) (x y:NV),l[i]? =some x->l[j]? =some y->Apart x.ev y.lv
 aT:∀(i j:Nat) (x y:NV),i≠j->l[i]? =some x->l[j]? =some y->Apart x.tv y.tv
theorem rT.keep{S:Nat->Prop}{w w':World}{B:Nat}{l:List NV}{v:Value}(h:rT w B l v)(k:Kp S w w')
 (hS:∀i cur T,w.heap[i]? =some (.cells cur T (0,0))->B<=i->T=223\/T=9\/T=292->¬S i):rT w' B l v:=by
 have own:∀{e size v n xs},w.ownsRow B e size v n xs->e=223\/e=9\/e=292->w'.ownsRow B e size v n xs:=by
  intro e size v n xs ho he;refine k.owns ho (λi hi=>?_);obtain⟨cur,hc⟩:=br ho hi;exact hS i cur e hc (ho.lt i hi).1 he
 exact⟨own h.row (.inl rfl),λx hx=>own (h.rR x hx) (.inr (.inl rfl)),λx hx=>own (h.rD x hx) (.inr (.inl rfl)),λx hx=>own (h.iX x hx) (.inr (.inr rfl)),h.aE,h.aL,h.aX,h.aT⟩
theorem rT.ai{w w':World}{B:Nat}{l:List NV}{v:Value}(h:rT w B l v)(k:Kp (λ_=>False) w w'):rT w' B l v:=h.keep k (λ_ _ _ _ _ _ x=>x)
theorem rT.len{w:World}{B:Nat}{l:List NV}{v:Value}(h:rT w B l v):∃ao cap,v= .slice ao l.length cap:=aF h.row
theorem rT.wK(w:World)(g o:Nat)(u:Value):Kp (λi=>i=g) w (w.setCell ⟨g,o,none⟩ u):=(Kp.refl _ _).setCell (by intro _;rfl) _
theorem jk{l:List NV}{k:Nat}{y z:NV}(h:z∈l.set k y):z∈l\/z=y:=by
 rcases List.mem_or_eq_of_mem_set h with h|h
 ·exact .inl h
 exact .inr h
theorem rT.push{w w':World}{B:Nat}{l:List NV}{v v':Value}(h:rT w B l v)(hg:w.grownBy w' v.ownBlock){n:RN}(hn:n.enter=[]/\n.leave=[]/\n.trans=[])
 (ho:w'.ownsRow B 223 7 v' (l.length+1) (fh l++lV ⟨n,.slice none 0 0,.slice none 0 0,.slice none 0 0⟩)):
 rT w' B (l++[⟨n,.slice none 0 0,.slice none 0 0,.slice none 0 0⟩]) v':=by
 have K:Kp (λi=>v.ownBlock=some i) w w':=(Kp.refl _ _).grown hg (λi hi _=>hi)
 have ng:∀{e size u n xs},w.ownsRow B e size u n xs->e≠223->∀i,u.ownBlock=some i->¬v.ownBlock=some i:=
  λho he i hi=>cC ho h.row he i hi
 have get:∀(i:Nat) (z:NV),(l++[⟨n,.slice none 0 0,.slice none 0 0,.slice none 0 0⟩])[i]? =some z->l[i]? =some z\/(z.ev= .slice none 0 0/\z.lv= .slice none 0 0/\z.tv= .slice none 0 0):=by
  intro i z hz
  rcases Nat.lt_or_ge i l.length with hl|hl
  ·rw[List.getElem?_append_left hl]at hz;exact .inl hz
  rw[List.getElem?_append_right hl]at hz
  have:i-l.length=0:=by
   rcases Nat.eq_zero_or_pos (i-l.length)with e|e
   ·exact e
   rw[List.getElem?_eq_none (by simp;omega)]at hz;simp at hz
  rw[this]at hz;simp at hz;subst hz;exact .inr ⟨rfl,rfl,rfl⟩
 refine⟨by rw[GH];simpa using ho,?_,?_,?_,?_,?_,?_,?_⟩
 ·intro z hz
  rcases List.mem_append.1 hz with hz|hz
  ·exact K.owns (h.rR z hz) (ng (h.rR z hz) (by decide))
  simp at hz;subst hz;simp only[hn.1];exact World.ownsRow_nil _ _ _ _
 ·intro z hz
  rcases List.mem_append.1 hz with hz|hz
  ·exact K.owns (h.rD z hz) (ng (h.rD z hz) (by decide))
  simp at hz;subst hz;simp only[hn.2.1];exact World.ownsRow_nil _ _ _ _
 ·intro z hz
  rcases List.mem_append.1 hz with hz|hz
  ·exact K.owns (h.iX z hz) (ng (h.iX z hz) (by decide))
  simp at hz;subst hz;simp only[hn.2.2];exact World.ownsRow_nil _ _ _ _
 ·intro i j a b hij ha hb
  rcases get i a ha with ha|⟨e,_,_⟩
  ·rcases get j b hb with hb|⟨e,_,_⟩
   ·exact h.aE i j a b hij ha hb
   rw[e];exact(ji _).symm
  rw[e];exact ji _
 ·intro i j a b hij ha hb
  rcases get i a ha with ha|⟨_,e,_⟩
  ·rcases get j b hb with hb|⟨_,e,_⟩
   ·exact h.aL i j a b hij ha hb
   rw[e];exact(ji _).symm
  rw[e];exact ji _
 ·intro i j a b ha hb
  rcases get i a ha with ha|⟨e,_,_⟩
  ·rcases get j b hb with hb|⟨_,e,_⟩
   ·exact h.aX i j a b ha hb
   rw[e];exact(ji _).symm
  rw[e];exact ji _
 intro i j a b hij ha hb
 rcases get i a ha with ha|⟨_,_,e⟩
 ·rcases get j b hb with hb|⟨_,_,e⟩
  ·exact h.aT i j a b hij ha hb
  rw[e];exact(ji _).symm
 rw[e];exact ji _
def iG(w:World)(B cb:Nat)(l:List NV)(v:Value):Prop:=w.heap[cb]? =some (.cells #[v] 219 (0,0))/\rT w B l v/\B<=cb
section
variable {w w':World} {B cb:Nat} {l:List NV} {v:Value}
theorem iG.cell(h:iG w B cb l v):w.cell? ⟨cb,0,none⟩=some v:=by rw[World.cell?,h.1];rfl
theorem iG.free(h:iG w B cb l v)(i:Nat):w.frozen? ⟨cb,i,none⟩=false:=by simp[World.frozen?,h.1]
theorem iG.ai(h:iG w B cb l v)(k:Kp (λ_=>False) w w'):iG w' B cb l v:=⟨k.at_ h.1 (λx=>x),h.2.1.ai k,h.2.2⟩
theorem iG.low(h:iG w B cb l v):B<=w.heap.size:=by have:=lt_of_block h.1;have:=h.2.2;omega
theorem iG.A4{S:Nat->Prop}(h:iG w B cb l v)(k:Kp S w w')(hS:∀i cur T,w.heap[i]? =some (.cells cur T (0,0))->B<=i->T=223\/T=9\/T=292\/T=219->¬S i):iG w' B cb l v:=
 ⟨k.at_ h.1 (hS cb _ _ h.1 h.2.2 (.inr (.inr (.inr rfl)))),h.2.1.keep k (λi cur T hi hb hT=>hS i cur T hi hb (by rcases hT with h|h|h;exact .inl h;exact .inr (.inl h);exact .inr (.inr (.inl h)))),h.2.2⟩
theorem iG.ne(h:iG w B cb l v):v.ownBlock≠some cb:=own_ne h.2.1.row h.1 (by decide)
theorem iG.push{v':Value}(h:iG w B cb l v)(hg:w.grownBy w' v.ownBlock){n:RN}(hn:n.enter=[]/\n.leave=[]/\n.trans=[])
 (ho:w'.ownsRow B 223 7 v' (l.length+1) (fh l++lV ⟨n,.slice none 0 0,.slice none 0 0,.slice none 0 0⟩)):
 iG (w'.setCell ⟨cb,0,none⟩ v') B cb (l++[⟨n,.slice none 0 0,.slice none 0 0,.slice none 0 0⟩]) v':=by
 have K:Kp (λi=>v.ownBlock=some i) w w':=(Kp.refl _ _).grown hg (λi hi _=>hi);have hc:w'.heap[cb]? =some (.cells #[v] 219 (0,0)):=K.at_ h.1 h.ne;refine⟨by rw[ah _ hc];rfl,(h.2.1.push hg hn ho).keep (rT.wK w' cb 0 v') (λi cur T hi _ hT e=>?_),h.2.2⟩;subst e;rw[hc]at hi;simp at hi
 rcases hT with hT|hT|hT<;>rw[hT]at hi<;>exact absurd hi.2 (by decide)
end
namespace Ch
def mk(l:List NV):List RN:=l.map (·.n)
theorem gE.close{t:ByteArray}{k:Nat}{up:Int}{L res:List RN}(h:gE t k up L res)(hk:k<t.size)(ho:(af t k==41||af t k==93)=true):
 ∃n,vU L up=some n/\gE t (k+1) n.parent L res:=by
 have h1:isOpen (af t k)=false:=by
  rcases(by simpa using ho:af t k=41\/af t k=93)with e|e<;>rw[e]<;>decide
 rcases h.inv with⟨h,rfl⟩|⟨_,_,_,_,hst,hn⟩
 ·omega
 unfold lR at hst;simp only[h1,ho,Bool.false_eq_true,if_false,if_true]at hst
 cases hn':vU L up with
 |none=>rw[hn']at hst;simp at hst
 |some n=>?_
 rw[hn']at hst;simp only[Option.some.injEq,Prod.mk.injEq]at hst;obtain⟨rfl,rfl,rfl⟩:=hst;exact⟨n,rfl,hn⟩
theorem gE.blk{t:ByteArray}{k:Nat}{up:Int}{L res:List RN}(h:gE t k up L res)(hk:k<t.size)(ho:(af t k==94||af t k==36)=true):
 ∃n,vU L up=some n/\k+1<=gR t k 59/\gE t (gR t k 59+1) up (mM L up λn=>if af t k==94 then {n with enter:=n.enter++[t.extract (k+1) (gR t k 59)]}else {n with leave:=n.leave++[t.extract (k+1) (gR t k 59)]}) res:=by
 have h1:isOpen (af t k)=false/\(af t k==41||af t k==93)=false/\(af t k==58)=false:=by
  rcases(by simpa using ho:af t k=94\/af t k=36)with e|e<;>rw[e]<;>decide
 rcases h.inv with⟨h,rfl⟩|⟨_,_,_,_,hst,hn⟩
 ·omega
 unfold lR at hst;simp only[h1.1,h1.2.1,h1.2.2,ho,Bool.false_eq_true,if_false,if_true]at hst
 split at hst
 ·rename_i hc
  simp only[Option.some.injEq,Prod.mk.injEq]at hst;obtain⟨rfl,rfl,rfl⟩:=hst;obtain⟨n,hn'⟩:=Option.isSome_iff_exists.1 hc.2;exact⟨n,hn',hc.1,hn⟩
 simp at hst
end Ch
def yl(w:World)(B b:Nat)(k:Wk):Prop:=∃v,w.heap[b]? =some (.cells #[.int .i64 k.mode,v,.int .u8 k.close] 289 (0,0))/\cD w B v (ar k.open_)
theorem yl.close{w:World}{B b:Nat}{k:Wk}(h:yl w B b k):w.cell? ⟨b,2,none⟩=some (.int .u8 k.close):=by
 obtain⟨v,h,_⟩:=h;rw[World.cell?,h];rfl
theorem yl.mode{w:World}{B b:Nat}{k:Wk}(h:yl w B b k):w.cell? ⟨b,0,none⟩=some (.int .i64 k.mode):=by
 obtain⟨v,h,_⟩:=h;rw[World.cell?,h];rfl
theorem yl.free{w:World}{B b:Nat}{k:Wk}(h:yl w B b k)(i:Nat):w.frozen? ⟨b,i,none⟩=false:=by
 obtain⟨v,h,_⟩:=h;simp[World.frozen?,h]
theorem yl.lt{w:World}{B b:Nat}{k:Wk}(h:yl w B b k):b<w.heap.size:=by
 obtain⟨v,h,_⟩:=h;exact lt_of_block h
theorem yl.set2{w:World}{B b:Nat}{k:Wk}(h:yl w B b k)(c:Int):yl (w.setCell ⟨b,2,none⟩ (.int .u8 c)) B b {k with close:=c}:=by
 obtain⟨v,h,q⟩:=h;have ne:=q.ne h (by decide);refine⟨v,by rw[ah _ h];rfl,q.keep (S:=λi=>i=b) ((Kp.refl _ _).setCell (by intro _;rfl) _) (λi hi x=>by subst x;exact ne hi)⟩
theorem yl.drewN{w:World}{B b:Nat}{k:Wk}(h:yl w B b k)(n:Nat):yl (w.drewN n) B b k:=h
namespace Ch
theorem cP(l:List NV):(mk l).length=l.length:=by simp[mk]
def afr(n:RN):Prop:=∀rt∈n.trans,1<=rt.text.size/\rt.text.size<=300/\0<=rt.pos/\rt.pos<=300
end Ch
def Mo(w:World)(sb:Nat)(f:Int->Bool):Prop:=∃C,w.heap[sb]? =some (.cells C 294 (0,0))/\C.size=256/\∀n:Nat,n<256->C[n]? =some (.bool (f n))
theorem Mo.cell{w:World}{sb:Nat}{f:Int->Bool}(h:Mo w sb f)(n:Nat)(hn:n<256):w.cell? ⟨sb,n,none⟩=some (.bool (f n)):=by
 obtain⟨C,hC,_,hf⟩:=h;rw[cell_of_row w sb _ C _ _ hC];exact hf n hn
theorem Mo.ai{w w':World}{sb:Nat}{f:Int->Bool}(h:Mo w sb f)(k:Kp (λ_=>False) w w'):Mo w' sb f:=by
 obtain⟨C,hC,r⟩:=h;exact⟨C,k.at_ hC (λx=>x),r⟩
theorem Mo.set{w:World}{sb:Nat}{f f':Int->Bool}(h:Mo w sb f){n:Nat}(hn:n<256)(hf:∀m:Nat,m<256->f' m=(f m||(n:Int)==(m:Int))):Mo (w.setCell ⟨sb,n,none⟩ (.bool true)) sb f':=by
 obtain⟨C,hC,hs,hg⟩:=h;refine⟨_,ah _ hC,by simp[hs],λm hm=>?_⟩;rw[hf m hm]
 by_cases e:n=m
 ·subst e;rw[Array.getElem?_setIfInBounds_self_of_lt (by omega)];simp
 rw[Array.getElem?_setIfInBounds_ne e,hg m hm]
 have:((n:Int)==(m:Int))=false:=by simp;omega
 rw[this,Bool.or_false]
theorem Mo.keep{S:Nat->Prop}{w w':World}{sb:Nat}{f:Int->Bool}(h:Mo w sb f)(k:Kp S w w')(hs:¬S sb):Mo w' sb f:=by
 obtain⟨C,hC,r⟩:=h;exact⟨C,k.at_ hC hs,r⟩
theorem Mo.free{w:World}{sb:Nat}{f:Int->Bool}(h:Mo w sb f)(o:Nat):w.frozen? ⟨sb,o,none⟩=false:=by
 obtain⟨C,hC,_⟩:=h;simp[World.frozen?,hC]
structure abt(l:List NV):Prop where
 len:l.length<=300
 nm:∀x∈l,0<=x.n.name/\x.n.name<=255
 up:∀(k:Nat) (x:NV),l[k]? =some x->(x.n.kind=4\/x.n.kind=5)->∃p:Nat,x.n.parent=p/\p<l.length
 tr:∀x∈l,x.n.trans.length<=300/\afr x.n
namespace Ch
def eV(L:List RN)(b:Int):Int:=match(List.range L.length).find? (λi=>(cS L i).name==b)with|some i=>(i:Int)|none=>-1
def eJ(on:List Bool)(k:Nat):Bool:=on.getD k false
def jz(L:List RN)(t:ByteArray):Nat->Nat->Int->List Bool->Option (List Bool)
 |0,_,_,on=>some on
 |f+1,k,last,on=>if eV L (af t k)<=last then none else jz L t f (k+1) (eV L (af t k)) (on.set (eV L (af t k)).toNat true)
def gf(L:List RN)(t:ByteArray):Option (List Bool):=jz L t t.size 0 (-1) (List.replicate L.length false)
def mA(t:ByteArray)(k:Nat):Bool:=if k % 2==0 then bR (af t k)else eI 49 (af t k)
def pZ(t:ByteArray):Bool:=!(decide (16<t.size)||t.size % 2==1)&&(List.range t.size).all (mA t)
theorem jl(L:List RN)(b:Int):(eV L b= -1/\place (L.map RN.st) b= -2/\∀i,i<L.length->(cS L i).name≠b)\/∃i:Nat,i<L.length/\eV L b=i/\place (L.map RN.st) b=i/\(cS L i).name=b:=by
 unfold eV place
 rcases j8 b (L.map RN.st) 0 with⟨e,g⟩|⟨j,s,e1,e2,e3,e4⟩
 ·left
  have hne:∀i,i<L.length->(cS L i).name≠b:=λi hi=>by
   rw[cU (List.getElem?_eq_getElem hi)];exact g _ (List.mem_map.2 ⟨L[i],List.getElem_mem hi,rfl⟩)
  refine⟨?_,e,hne⟩;rw[GI];intro i hi;have:=hne i hi;simpa using this
 right
 rw[List.getElem?_map,Option.map_eq_some_iff]at e1;obtain⟨m,hm,rfl⟩:=e1;have hlt:=(List.getElem?_eq_some_iff.1 hm).1
 have hb:(List.range L.length).find? (λi=>(cS L i).name==b)=some j:=by
  rw[List.find?_range_eq_some];refine⟨by rw[cU hm];have h':m.name=b:=e2;simpa using h',by simpa using hlt,λk hk=>?_⟩
  have hkl:k<L.length:=by omega
  rw[cU (List.getElem?_eq_getElem hkl)];have:=e4 k (L[k]).st hk (by rw[List.getElem?_map,List.getElem?_eq_getElem hkl];rfl);have h':(L[k]).name≠b:=this;simpa using h'
 rw[hb];exact⟨j,hlt,rfl,by rw[e3];simp,by rw[cU hm];exact e2⟩ where
 GI {n:Nat} {q:Nat->Bool} (h:∀i,i<n->q i=false):(match(List.range n).find? q with|some i=>((i:Nat):Int)|none=>-1)= -1:=by
  have:(List.range n).find? q=none:=by
   rw[List.find?_eq_none];intro i hi;simp[h i (by simpa using hi)]
  rw[this]
def fJ(n:Nat)(on l:List Bool):Prop:=on.length=n/\l.length=16/\∀k,eJ on k=bit l k
theorem fJ.set{n i:Nat}{on l:List Bool}(h:fJ n on l)(hi:i<n)(hn:n<=16):fJ n (on.set i true) (pH l (i:Int) true):=by
 obtain⟨h1,h2,h3⟩:=h;refine⟨by simp[h1],by show(l.set i true).length=16;simp[h2],λk=>?_⟩;show(on.set i true).getD k false=(l.set i true).getD k false;have:=h3 k;unfold eJ bit at this;simp only[List.getD_eq_getElem?_getD,List.getElem?_set]at this⊢
 by_cases e:i=k
 ·subst e;rw[if_pos rfl,if_pos rfl,if_pos (by omega),if_pos (by omega)]
 rw[if_neg e,if_neg e];exact this
theorem vx{L:List RN}{t:ByteArray}(hn:L.length<=16):∀(f k:Nat) (last:Int) (on l:List Bool),fJ L.length on l-> -1<=last->
 (jz L t f k last on=none/\zD (L.map RN.st) t f k last l=none)\/∃on' l',jz L t f k last on=some on'/\zD (L.map RN.st) t f k last l=some l'/\fJ L.length on' l':=by
 intro f
 induction f with
 |zero=>intro k last on l h _;exact .inr ⟨on,l,rfl,rfl,h⟩
 |succ f ih=>?_
 intro k last on l h hl;simp only[jz,zD]
 rcases jl L (af t k)with⟨e1,e2,_⟩|⟨i,hi,e1,e2,_⟩
 ·rw[e1,e2,if_pos (by omega),if_pos (by omega)];exact .inl ⟨rfl,rfl⟩
 rw[e1,e2]
 by_cases c:(i:Int)<=last
 ·rw[if_pos c,if_pos c];exact .inl ⟨rfl,rfl⟩
 rw[if_neg c,if_neg c];exact ih (k+1) i _ _ (h.set hi hn) (by omega)
theorem ym{L:List RN}{i:Nat}(hi:i<L.length):aA (L.map RN.st) (i:Int)=(cS L i).kind:=by
 unfold aA;rw[dD,List.getElem?_map,List.getElem?_eq_getElem hi,cU (List.getElem?_eq_getElem hi)];rfl
theorem wL{L:List RN}{i:Nat}(hi:i<L.length):aw (L.map RN.st) (i:Int)=(cS L i).parent:=by
 unfold aw;rw[dD,List.getElem?_map,List.getElem?_eq_getElem hi,cU (List.getElem?_eq_getElem hi)];rfl
def Uniq(L:List RN):Prop:=∀i j,i<L.length->j<L.length->(cS L i).name=(cS L j).name->i=j
theorem VV(t:ByteArray):∀(f k:Nat),t.size<=k+f->k % 2=0->t.size % 2=0->IU t f k=(List.range' k (t.size-k)).all (mA t):=by
 intro f
 induction f using Nat.strongRecOn with
 |ind f ih=>?_
 intro k h1 h2 h3
 match f,ih with
 |0,_=>
  have:t.size-k=0:=by omega
  rw[this];rfl
 |f+1,ih=>
  simp only[IU]
  by_cases c:k+1<t.size
  ·rw[if_pos c]
   have e:t.size-k=(t.size-(k+2))+1+1:=by omega
   rw[e,List.range'_succ,List.range'_succ,List.all_cons,List.all_cons]
   have s0:mA t k=bR (af t k):=by unfold mA;rw[h2];rfl
   have s1:mA t (k+1)=eI 49 (af t (k+1)):=by
    unfold mA
    have:(k+1) % 2=1:=by omega
    rw[this];rfl
   rw[s0,s1]
   have hd:(!decide (af t (k+1)<49)&& !decide (57<af t (k+1)))=eI 49 (af t (k+1)):=by
    unfold eI;rw[Bool.eq_iff_iff];simp
   rw[Bool.and_assoc,hd,<-Bool.and_assoc];have:=ih f (by omega) (k+2) (by omega) (by omega) h3;rw[this]
   cases bR (af t k)&&eI 49 (af t (k+1))<;>simp
  rw[if_neg c]
  have:t.size-k=0:=by omega
  rw[this];rfl
theorem Qk(t:ByteArray):j2 t=pZ t:=by
 unfold j2 pZ
 have hm:(((t.size:Int) % 2 !=0)||decide (16<t.size))=(decide (16<t.size)||t.size % 2==1):=by
  rw[Bool.or_comm]
  congr 1
  rw[Bool.eq_iff_iff];simp;omega
 rw[hm]
 cases c:(decide (16<t.size)||t.size % 2==1)with
 |true=>simp
 |false=>?_
 simp only[Bool.false_eq_true,if_false,Bool.not_false,Bool.true_and]
 have:t.size % 2=0:=by
  simp at c;omega
 rw[VV t t.size 0 (by omega) rfl this,List.range_eq_range',Nat.sub_zero]
theorem Ql(n:Nat):fJ n (List.replicate n false) db:=by
 refine⟨by simp,by simp[db],λk=>?_⟩;unfold eJ bit db;simp only[List.getD_eq_getElem?_getD,List.getElem?_replicate]
 split<;>split<;>rfl
theorem ZJ{L:List RN}(h:∀j,j<L.length->sw L j=false):Uniq L:=by
 have key:∀i j,i<j->j<L.length->(cS L i).name≠(cS L j).name:=by
  intro i j hij hj e;have:=h j hj;unfold sw at this;rw[List.any_eq_false]at this
  have hi:i<L.length:=by omega
  have:=this L[i] (by rw[List.mem_take_iff_getElem];exact⟨i,by omega,rfl⟩);rw[cU (List.getElem?_eq_getElem hi)]at e;simp[e]at this
 intro i j hi hj e
 rcases Nat.lt_trichotomy i j with h'|h'|h'
 ·exact absurd e (key i j h' hj)
 ·exact h'
 exact absurd e.symm (key j i h' hi)
theorem A9{L:List RN}{r:Rs}(hN:NR L r)(h:(judge r.ag r.uses).1=0):Uniq L/\L.length<=16:=by
 rw[<-AZ hN]at h;unfold oW at h
 split at h
 ·simp at h
 rename_i c;refine⟨ZJ ?_,by omega⟩
 cases e:(List.range L.length).find? (sw L)with
 |some i=>rw[e]at h;simp at h
 |none=>?_
 rw[List.find?_eq_none]at e;intro j hj;have:=e j (by simpa using hj);simpa using this
theorem iL{l:List NV}{k:Nat}{x:NV}(hx:l[k]? =some x):cS (mk l) k=x.n:=cU (by unfold mk;rw[List.getElem?_map,hx];rfl)
end Ch
def iH(w:World)(g:Nat)(on:List Bool):Prop:=w.heap[g]? =some (.cells (on.map Value.bool).toArray 4)
theorem iH.cell{w:World}{g:Nat}{on:List Bool}(h:iH w g on){k:Nat}(hk:k<on.length):w.cell? ⟨g,k,none⟩=some (.bool (eJ on k)):=by
 unfold iH at h;simp[World.cell?,h,eJ,hk]
theorem iH.free{w:World}{g:Nat}{on:List Bool}(h:iH w g on)(k:Nat):w.frozen? ⟨g,k,none⟩=false:=by unfold iH at h;simp[World.frozen?,h]
theorem iH.set{w:World}{g:Nat}{on:List Bool}(h:iH w g on)(k:Nat)(b:Bool):iH (w.setCell ⟨g,k,none⟩ (.bool b)) g (on.set k b):=by
 unfold iH at*;rw[ah _ h];simp[List.map_set]
theorem iH.made{w:World}{base g n:Nat}(h:w.ownsRow base 4 1 (.slice (some ⟨g,0,none⟩) n n) n (madeCells #[Value.bool false] n).toList):iH w g (List.replicate n false):=by
 unfold iH
 have hm:(madeCells #[Value.bool false] n).toList=(List.replicate n false).map Value.bool:=by
  apply List.ext_getElem?;intro j;unfold madeCells;simp only[Array.toList_map,List.getElem?_map,Array.toList_range,List.getElem?_replicate]
  by_cases c:j<n
  ·rw[List.getElem?_range c,if_pos c]
   simp[Nat.mod_one]
  rw[List.getElem?_eq_none (by simp;omega),if_neg c];rfl
 rcases h.2 with⟨e,_⟩|⟨g',cap,cur,e,_,hh,hc,_,hsz,Ji⟩
 ·simp at e
 simp only[Value.slice.injEq,Option.some.injEq,Addr.mk.injEq,and_true,true_and]at e;obtain⟨rfl,rfl⟩:=e;rw[hh]
 have:cur=((List.replicate n false).map Value.bool).toArray:=by
  apply Array.toList_inj.1;rw[hm]at Ji;rw[<-Ji,List.take_of_length_le (by rw[Array.length_toList,hsz];exact Nat.le_refl _)]
 rw[this]
end Go.Proofs.YtnlbchmfcebeeaaGreat
