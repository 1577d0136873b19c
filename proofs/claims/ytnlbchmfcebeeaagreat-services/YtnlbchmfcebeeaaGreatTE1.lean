import Derived.Test.YtnlbchmfcebeeaaGreatTC2
import Derived.Deep.CutRange
import Derived.Deep.RegionHeld3
set_option maxHeartbeats 12800000
set_option maxRecDepth 100000
namespace Go.Proofs.YtnlbchmfcebeeaaGreat
open Go.Proofs.Tryz Ch
open Go.RowKit
namespace Ch
def rR(p:Nat->Bool)(k:Nat):Bool:=(List.range k).all p
def ux(p:Nat->Bool)(k:Nat):Bool:=(List.range k).any p
theorem A9(p:Nat->Bool)(k:Nat):rR p (k+1)=(rR p k&&p k):=by grind[rR]
theorem wm(p:Nat->Bool)(k:Nat):ux p (k+1)=(ux p k||p k):=by grind[ux]
theorem Q9{p:Nat->Bool}{k n:Nat}(hk:k<n)(h:p k=false):rR p n=false:=by grind[rR]
theorem Dz{p:Nat->Bool}{k n:Nat}(hk:k<n)(h:p k=true):ux p n=true:=by grind[ux]
def kept(ss:List St)(D:List Bool)(parent:Int):Bool:=ux (λi=>has D (i:Int)&&aW ss i parent) ss.length
def DA(ss:List St)(l:List Bool)(st:Int)(i:Nat):Bool:=(a_ ss i==4)&&(aN ss i==st)&&has l (i:Int)
def qZ(ss:List St)(l:List Bool)(st:Int):Bool:=ux (DA ss l st) ss.length
def fH(ss:List St)(l:List Bool):Nat->Int->Bool
 |0,_=>false
 |f+1,st=>if a_ ss st==2 then qZ ss l st else if a_ ss st==3 then rR (λi=>!aW ss i st||fH ss l f (i:Int)) ss.length else false
def atEnd(ss:List St)(l:List Bool)(st:Int):Bool:=fH ss l (ss.length+2) st
end Ch
section
variable (w:World) (mb ob po:Nat) (s:Sd) (qv ov:Value) (ol:Ol)
theorem N6(sb so:Nat)(pre:List Value)(l:List Bool)(post:List Value)(T:TypeId)(parent:Int)(hm:iW w mb ob po s qv ov)(J:Pl w ob po ol)(hl:ol.ai.length<=16)(I:kP w sb pre l post T)(Z:l.length=16)(ad:pre.length=so):
 Calls prog 164 #[.pointer (some ⟨mb,0,none⟩),.int .i64 parent,.pointer (some ⟨sb,so,none⟩)] w λx w'=>x= .returned (.bool (Ch.kept ol.ai l parent))/\w'=w:=by
 have cp:=hm.kb;have F:=J.str;obtain⟨ao,cap,c2⟩:=F.len
 go_enter func164,ntmps164
 go_wp2_with fail
 go_loop [7] (λi=>∃k:Nat,i= .int .i64 k/\k<=ol.ai.length/\Hid (ux (λi=>Ch.has l (i:Int)&&aW ol.ai i parent) k=false)) (λi=>ol.ai.length-(intOf i).toNat)
 case atStart=>exact⟨0,rfl,aG _,af rfl⟩
 case round=>
  obtain⟨k,rfl,hk,D⟩:=hrel
  by_cases aa:k<ol.ai.length
  ·have aj:(k:Int)<(ol.ai.length:Int):=by omega
   have G:=af (lW w sb so pre l post T k I Z ad);have U:=af (mi ob po w ol.ai k parent F (by omega))
   cases O:Ch.has l (k:Int)with
   |false=>
    have E:=af (show ux (λi=>Ch.has l (i:Int)&&aW ol.ai i parent) (k+1)=false by rw[wm,D.out,O];rfl);rw[O]at G;clear D hm J F I
    go_wp2_with fail
    refine b9 G ?_;rintro x Y ⟨rfl,rfl⟩;go_wp2
    go_round
    case rel=>exact⟨k+1,by go_num,by omega,E⟩
    case measure=>simp[intOf];omega
   |true=>?_
   rw[O]at G
   cases X:aW ol.ai k parent with
   |false=>
    have E:=af (show ux (λi=>Ch.has l (i:Int)&&aW ol.ai i parent) (k+1)=false by rw[wm,D.out,O,X];rfl);rw[X]at U;clear D hm J F I
    go_wp2_with fail
    refine b9 G ?_;rintro x Y ⟨rfl,rfl⟩
    go_wp2_with fail
    refine b9 U ?_;rintro x Y ⟨rfl,rfl⟩;go_wp2
    go_round
    case rel=>exact⟨k+1,by go_num,by omega,E⟩
    case measure=>simp[intOf];omega
   |true=>?_
   have E:=af (show Ch.kept ol.ai l parent=true from Dz aa (by rw[O,X];rfl));rw[X]at U;clear D hm J F I
   go_wp2_with fail
   refine b9 G ?_;rintro x Y ⟨rfl,rfl⟩
   go_wp2_with fail
   refine b9 U ?_;rintro x Y ⟨rfl,rfl⟩;go_wp2;go_ret;exact⟨by rw[E.out];rfl,rfl⟩
  have am:¬(k:Int)<(ol.ai.length:Int):=by omega
  obtain rfl:k=ol.ai.length:=by omega
  have E:=af (show Ch.kept ol.ai l parent=false from D.out);clear D hm J F I;go_wp2;go_ret;exact⟨by rw[E.out];rfl,rfl⟩
theorem GL(st:Int)(hm:iW w mb ob po s qv ov)(hw:s.Wf)(I:Pl w ob po ol)(hl:ol.ai.length<=16):
 Calls prog 253 #[.pointer (some ⟨mb,0,none⟩),.int .i64 st] w λx w'=>x= .returned (.bool (qZ ol.ai s.act st))/\w'=w:=by
 have cp:=hm.kb;have G:=I.str
 go_enter func253,ntmps253
 go_wp2_with fail
 go_loop [5] (λi=>∃k:Nat,i= .int .i64 k/\k<=ol.ai.length/\Hid (ux (DA ol.ai s.act st) k=false)) (λi=>ol.ai.length-(intOf i).toNat)
 case atStart=>exact⟨0,rfl,aG _,af rfl⟩
 case round=>
  obtain⟨k,rfl,hk,F⟩:=hrel
  by_cases J:k<ol.ai.length
  ·have Z:(k:Int)<(ol.ai.length:Int):=by omega
   obtain⟨t,hs⟩:∃s,ol.ai[k]? =some s:=⟨_,ar J⟩
   obtain⟨g,cap,c2,a0,a1,a2,a3⟩:=G.at_ hs
   have E:DA ol.ai s.act st k=((t.kind==4)&&(t.parent==st)&&Ch.has s.act (k:Int)):=by simp[DA,a_,aN,gR,hs]
   have O:=af (lW w mb 1 [.pointer (some ⟨ob,po,none⟩)] s.act (cX s++[qv,ov]) 149 k hm hw.1 rfl)
   have no:DA ol.ai s.act st k=false->ux (DA ol.ai s.act st) (k+1)=false:=λq=>by rw[wm,F.out,q];rfl
   cases U:t.kind==4 with
   |false=>
    have D:=af (no (by rw[E,U];rfl));clear F hm I G hs E no;go_wp2
    go_round
    case rel=>exact⟨k+1,by go_num,by omega,D⟩
    case measure=>simp[intOf];omega
   |true=>?_
   cases Y:t.parent==st with
   |false=>
    have D:=af (no (by rw[E,U,Y];rfl));clear F hm I G hs E no;go_wp2
    go_round
    case rel=>exact⟨k+1,by go_num,by omega,D⟩
    case measure=>simp[intOf];omega
   |true=>?_
   cases X:Ch.has s.act (k:Int)with
   |false=>
    have D:=af (no (by rw[E,U,Y,X];rfl));rw[X]at O;clear F hm I G hs E no
    go_wp2_with fail
    refine b9 O ?_;rintro x w1 ⟨rfl,rfl⟩;go_wp2
    go_round
    case rel=>exact⟨k+1,by go_num,by omega,D⟩
    case measure=>simp[intOf];omega
   |true=>?_
   have D:=af (show qZ ol.ai s.act st=true from Dz J (by rw[E,U,Y,X];rfl));rw[X]at O;clear F hm I G hs E no
   go_wp2_with fail
   refine b9 O ?_;rintro x w1 ⟨rfl,rfl⟩;go_wp2;go_ret;exact⟨by rw[D.out];rfl,rfl⟩
  have aa:¬(k:Int)<(ol.ai.length:Int):=by omega
  obtain rfl:k=ol.ai.length:=by omega
  have D:=af (show qZ ol.ai s.act st=false from F.out);obtain⟨ao,cap,c2⟩:=G.len;clear F hm I G;go_wp2;go_ret;exact⟨by rw[D.out];rfl,rfl⟩
theorem GM(f:Nat)(st:Int)(hm:iW w mb ob po s qv ov)(U:Pl w ob po ol)(hl:ol.ai.length<=16)
 (J:∀i:Nat,i<ol.ai.length->aW ol.ai i st=true->Calls prog 219 #[.pointer (some ⟨mb,0,none⟩),.int .i64 i] w λx w'=>x= .returned (.bool (fH ol.ai s.act f i))/\w'=w):
 Calls prog 254 #[.pointer (some ⟨mb,0,none⟩),.int .i64 st] w λx w'=>x= .returned (.bool (rR (λi=>!Ch.aW ol.ai i st||fH ol.ai s.act f (i:Int)) ol.ai.length))/\w'=w:=by
 have cp:=hm.kb;have E:=U.str;obtain⟨ao,cap,c2⟩:=E.len
 go_enter func254,ntmps254
 go_wp2_with fail
 go_loop [5] (λi=>∃k:Nat,i= .int .i64 k/\k<=ol.ai.length/\Hid (rR (λi=>!Ch.aW ol.ai i st||fH ol.ai s.act f (i:Int)) k=true)) (λi=>ol.ai.length-(intOf i).toNat)
 case atStart=>exact⟨0,rfl,aG _,af rfl⟩
 case round=>
  obtain⟨k,rfl,hk,D⟩:=hrel
  by_cases O:k<ol.ai.length
  ·have aa:(k:Int)<(ol.ai.length:Int):=by omega
   have G:=af (mi ob po w ol.ai k st E (by omega))
   cases F:aW ol.ai k st with
   |false=>
    have I:=af (show rR (λi=>!Ch.aW ol.ai i st||fH ol.ai s.act f (i:Int)) (k+1)=true by rw[A9,D.out,F];rfl);rw[F]at G;clear D hm U E J
    go_wp2_with fail
    refine b9 G ?_;rintro x Z ⟨rfl,rfl⟩;go_wp2
    go_round
    case rel=>exact⟨k+1,by go_num,by omega,I⟩
    case measure=>simp[intOf];omega
   |true=>?_
   have X:=af (J k O F);rw[F]at G
   cases Y:fH ol.ai s.act f (k:Int)with
   |true=>
    have I:=af (show rR (λi=>!Ch.aW ol.ai i st||fH ol.ai s.act f (i:Int)) (k+1)=true by rw[A9,D.out,F,Y];rfl);rw[Y]at X;clear D hm U E J
    go_wp2_with fail
    refine b9 G ?_;rintro x Z ⟨rfl,rfl⟩
    go_wp2_with fail
    refine b9 X ?_;rintro x Z ⟨rfl,rfl⟩;go_wp2
    go_round
    case rel=>exact⟨k+1,by go_num,by omega,I⟩
    case measure=>simp[intOf];omega
   |false=>?_
   have I:=af (show rR (λi=>!Ch.aW ol.ai i st||fH ol.ai s.act f (i:Int)) ol.ai.length=false from Q9 O (by rw[F,Y];rfl));rw[Y]at X;clear D hm U E J
   go_wp2_with fail
   refine b9 G ?_;rintro x Z ⟨rfl,rfl⟩
   go_wp2_with fail
   refine b9 X ?_;rintro x Z ⟨rfl,rfl⟩;go_wp2;go_ret;exact⟨by rw[I.out];rfl,rfl⟩
  have ad:¬(k:Int)<(ol.ai.length:Int):=by omega
  obtain rfl:k=ol.ai.length:=by omega
  clear hm U E J;go_wp2;go_ret;exact⟨by rw[D.out];rfl,rfl⟩
theorem GN(hm:iW w mb ob po s qv ov)(hw:s.Wf)(D:Pl w ob po ol)(hU:Up ol.ai)(O:ol.ai.length<=16):∀(f:Nat) (st:Int),(ol.ai.length:Int)<st+f->st<=ol.ai.length->
 Calls prog 219 #[.pointer (some ⟨mb,0,none⟩),.int .i64 st] w λx w'=>x= .returned (.bool (fH ol.ai s.act f st))/\w'=w:=by
 intro f
 induction f with
 |zero=>intro st Z h2;omega
 |succ f X=>?_
 intro st Z h2;have cp:=hm.kb;have F:=af (mh ob po w ol.ai st D.str (by omega));have G:=af (GL w mb ob po s qv ov ol st hm hw D O)
 have I:=af (GM w mb ob po s qv ov ol f st hm D O (λi hi hc=>X i (by
  have:st<(i:Int):=by
   obtain⟨t,U⟩:∃t,ol.ai[i]? =some t:=⟨_,ar hi⟩
   have:=hU i t U;simp[aW,gR,U]at hc;omega
  omega) (by omega)))
 clear X
 cases J:a_ ol.ai st==2 with
 |true=>
  rw[show fH ol.ai s.act (f+1) st=qZ ol.ai s.act st by simp only[fH];rw[J];rfl];clear hm D I
  go_enter func219,ntmps219
  go_wp2_with fail
  refine b9 F ?_;rintro x E ⟨rfl,rfl⟩
  go_wp2_with fail
  refine b9 G ?_;rintro x E ⟨rfl,rfl⟩;go_wp2;go_ret;exact⟨rfl,rfl⟩
 |false=>?_
 cases Y:a_ ol.ai st==3 with
 |true=>
  rw[show fH ol.ai s.act (f+1) st=rR (λi=>!Ch.aW ol.ai i st||fH ol.ai s.act f (i:Int)) ol.ai.length by simp only[fH];rw[J,Y];rfl];clear hm D G
  go_enter func219,ntmps219
  go_wp2_with fail
  refine b9 F ?_;rintro x E ⟨rfl,rfl⟩
  go_wp2_with fail
  refine b9 I ?_;rintro x E ⟨rfl,rfl⟩;go_wp2;go_ret;exact⟨rfl,rfl⟩
 |false=>?_
 rw[show fH ol.ai s.act (f+1) st=false by simp only[fH];rw[J,Y];rfl];clear hm D G I
 go_enter func219,ntmps219
 go_wp2_with fail
 refine b9 F ?_;rintro x E ⟨rfl,rfl⟩;go_wp2;go_ret;exact⟨rfl,rfl⟩
theorem A_(st:Int)(hm:iW w mb ob po s qv ov)(hw:s.Wf)(G:Pl w ob po ol)(E:Up ol.ai)(F:ol.ai.length<=16)(I: -1<=st)(D:st<=ol.ai.length):
 Calls prog 219 #[.pointer (some ⟨mb,0,none⟩),.int .i64 st] w λx w'=>x= .returned (.bool (Ch.atEnd ol.ai s.act st))/\w'=w:=
 GN w mb ob po s qv ov ol hm hw G E F _ st (by omega) D
end
namespace Ch
def gU(ss:List St)(m:Ma)(st:Int):Ma:=
 if st== -1 then m
 else if(a_ ss (aN ss st)==3)&&atEnd ss m.s.act (aN ss st)then {m with q:=m.q++[gD ss st.toNat]++[gD ss (aN ss st).toNat]}
 else {m with q:=m.q++[gD ss st.toNat]}
def dN(m:Ma)(i:Int)(v:Bool):Ma:={m with s:={m.s with act:=sq m.s.act i v}}
def dA(ol:Ol)(m:Ma)(i:Nat):Ma:=
 if a_ ol.ai i==4 then gU ol.ai (d_ i 94 ol.eR (dN m i true)) (aN ol.ai i)else d_ i 94 ol.eR (dN m i true)
def cM(ol:Ol)(left:List Bool):Nat->Ma->Ma
 |0,m=>m
 |k+1,m=>cM ol left k (if has left (k:Int)then dN (d_ k 36 ol.eR m) k false else m)
theorem nP{m:Ma}(h:m.s.Ok)(i:Int)(v:Bool):(dN m i v).s.Ok:=by
 obtain⟨⟨D,E⟩,F⟩:=h;exact⟨⟨by show(sq m.s.act i v).length=16;rw[od];exact D,E⟩,F⟩
theorem qm(ss:List St)(m:Ma)(st:Int):(gU ss m st).s=m.s/\(gU ss m st).out=m.out/\(gU ss m st).q.length<=m.q.length+2:=by
 grind[gU]
theorem tG{ol:Ol}(D:ol.Ok)(state sign:Int){m:Ma}{n:Nat}(h:m.Sz n):(d_ state sign ol.eR m).Sz (n+115200):=by
 have E:=N0 state sign ol.eR h (λb hb=>(D.rY b hb).1);have F:=D.eR;grind[Ma.Sz]
theorem uy{ol:Ol}{m:Ma}(h:m.s.Ok)(i:Nat):(dA ol m i).s.Ok:=by
 grind[dA,qm,vi,nP]
theorem uz{ol:Ol}(D:ol.Ok){m:Ma}{n:Nat}(h:m.Sz n)(i:Nat):(dA ol m i).Sz (n+115202):=by
 have E:=tG D i 94 (m:=dN m i true) (n:=n) h;unfold dA
 grind[qm,d_,dN,aN,Ma.Sz]
theorem Q_{ss:List St}{i:Int}(h:(a_ ss i==3)=true):∃(k:Nat) (s:St),i=k/\ss[k]? =some s/\k<ss.length:=by
 grind[a_,rQ,j1]
end Ch
theorem Mm.put{w w':World}{B mb ob po:Nat}{s s':Sd}{qv ov:Value}{q out:List Int}(hm:iW w mb ob po s qv ov)(D:dh w B qv (aD q))(oo:dh w B ov (aD out))(E:kQ qv ov)
 (k:Kp (λk=>k=mb) w w') (F:iW w' mb ob po s' qv ov):Mm w' B mb ob po ⟨s',q,out⟩/\Kp (km B mb w) w w':=by
 have G:=D.ne hm (by decide);have I:=oo.ne hm (by decide);exact⟨⟨qv,ov,F,D.az k (λi hi x=>by subst x;exact G hi),oo.az k (λi hi x=>by subst x;exact I hi),E⟩,(Kp.refl _ _).trans' k (λi _ x=>.inl x)⟩
theorem Mm.kb{w:World}{B mb ob po:Nat}{m:Ma}(h:Mm w B mb ob po m):w.cell? ⟨mb,0,none⟩=some (.pointer (some ⟨ob,po,none⟩)):=by
 obtain⟨qv,ov,hm,_⟩:=h;exact hm.kb
section
variable (w:World) (B mb ob po:Nat) (ol:Ol)
theorem DB(m:Ma)(st:Int)(X:Pl w ob po ol)(E:ol.Ok)(h:Mm w B mb ob po m)(hs:m.s.Ok)(hB:B<=w.heap.size)(hz:m.Sz 950000000)(h1: -1<=st)(h2:st<ol.ai.length):
 Calls prog 168 #[.pointer (some ⟨mb,0,none⟩),.int .i64 st] w λx w'=>x= .returned (.tuple #[])/\Mm w' B mb ob po (gU ol.ai m st)/\Kp (km B mb w) w w':=by
 cases q1:st== -1 with
 |true=>
  rw[show gU ol.ai m st=m by unfold gU;rw[q1];rfl]
  go_enter func168,ntmps168
  go_wp2;refine bg (k9 rfl _ _ _) rfl ?_;exact⟨rfl,h,Kp.refl _ _⟩
 |false=>?_
 have a4:st≠ -1:=by simpa using q1
 obtain⟨k,rfl⟩:∃k:Nat,st=k:=⟨st.toNat,by omega⟩
 have hk:k<ol.ai.length:=by omega
 obtain⟨t,ht⟩:∃s,ol.ai[k]? =some s:=⟨_,ar hk⟩
 have ap:(k:Int)<(ol.ai.length:Int):=by omega
 have cp:=h.kb;obtain⟨g,cap,c2,a0,a1,a2,a3⟩:=X.str.at_ ht;have aS:=hz.1;have An:=E.ai
 have U:gD ol.ai (k:Int).toNat=t.name:=by simp[gD,ht]
 have Z:=af (tE w B mb ob po m t.name h hs.1 hB (by omega));have aa:=gE E.up (k:Int);have aO:=iy E.up (i:=(k:Int)) (by omega)
 cases q2:a_ ol.ai (aN ol.ai k)==3 with
 |false=>
  rw[show gU ol.ai m k={m with q:=m.q++[t.name]}by unfold gU;rw[q1,q2,U];rfl];have F:=af (ae h X);clear h X
  go_enter func168,ntmps168
  go_wp2_with fail
  refine b9 Z ?_;rintro x J ⟨rfl,G,O⟩;have D:=F.out.1.pl O F.out.2;have Z9:=G.kb;have E2:=af (iR ob po J ol.ai k D.str (by omega));have E3:=af (mh ob po J ol.ai (aN ol.ai k) D.str (by omega));clear Z F a0 a1 a2 a3 c2 cp D
  go_wp2_with fail
  refine b9 E2 ?_;rintro x Y ⟨rfl,rfl⟩
  go_wp2_with fail
  refine b9 E3 ?_;rintro x Y ⟨rfl,rfl⟩;go_wp2
  go_end0
  exact⟨rfl,G,O⟩
 |true=>?_
 obtain⟨kp,tp,ep,ad,aI⟩:=Q_ q2
 have ao:(kp:Int)<(ol.ai.length:Int):=by omega
 cases q3:Ch.atEnd ol.ai m.s.act (aN ol.ai k)with
 |false=>
  rw[show gU ol.ai m k={m with q:=m.q++[t.name]}by unfold gU;rw[q1,q2,q3,U];rfl];have F:=af (ae h X);clear h X ep
  go_enter func168,ntmps168
  go_wp2_with fail
  refine b9 Z ?_;rintro x J ⟨rfl,G,O⟩;have D:=F.out.1.pl O F.out.2;have Z9:=G.kb;have E2:=af (iR ob po J ol.ai k D.str (by omega));have E3:=af (mh ob po J ol.ai (aN ol.ai k) D.str (by omega));obtain⟨qv,ov,I,_⟩:=id G;have E4:=af (A_ J mb ob po m.s qv ov ol (aN ol.ai k) I hs.1 D E.up E.ai aa (by omega));rw[q3]at E4;clear Z F a0 a1 a2 a3 c2 cp D I
  go_wp2_with fail
  refine b9 E2 ?_;rintro x Y ⟨rfl,rfl⟩
  go_wp2_with fail
  refine b9 E3 ?_;rintro x Y ⟨rfl,rfl⟩
  go_wp2_with fail
  refine b9 E4 ?_;rintro x Y ⟨rfl,rfl⟩;go_wp2
  go_end0
  exact⟨rfl,G,O⟩
 |true=>?_
 rw[show gU ol.ai m k={m with q:=m.q++[t.name]++[tp.name]}by unfold gU;rw[q1,q2,q3,U,ep];simp[gD,ad]];have F:=af (ae h X);have EP:=af ep;clear h X ep
 go_enter func168,ntmps168
 go_wp2_with fail
 refine b9 Z ?_;rintro x J ⟨rfl,G,O⟩;have D:=F.out.1.pl O F.out.2;have Z9:=G.kb;have E2:=af (iR ob po J ol.ai k D.str (by omega));have E3:=af (mh ob po J ol.ai (aN ol.ai k) D.str (by omega));obtain⟨qv,ov,I,_⟩:=id G;have E4:=af (A_ J mb ob po m.s qv ov ol (aN ol.ai k) I hs.1 D E.up E.ai aa (by omega));rw[q3]at E4;rw[EP.out]at E2 E3 E4 q2;clear EP;obtain⟨g',am,aj,b0,b1,b2,b3⟩:=D.str.at_ ad;have E5:=af (tE J B mb ob po {m with q:=m.q++[t.name]} tp.name G hs.1 (by have:=O.size;omega) (by simp;omega));clear Z F a0 a1 a2 a3 c2 cp D I
 go_wp2_with fail
 refine b9 E2 ?_;rintro x Y ⟨rfl,rfl⟩
 go_wp2_with fail
 refine b9 E3 ?_;rintro x Y ⟨rfl,rfl⟩
 go_wp2_with fail
 refine b9 E4 ?_;rintro x Y ⟨rfl,rfl⟩
 go_wp2_with fail
 refine b9 E5 ?_;rintro x w5 ⟨rfl,M5,K5⟩;have K6:=Km.trans O K5;clear E5 G O K5 b0 b1 b2 b3 aj Z9;go_wp2
 go_end0
 exact⟨rfl,M5,K6⟩
theorem yr(m:Ma)(k:Nat)(O:Pl w ob po ol)(G:ol.Ok)(h:Mm w B mb ob po m)(hs:m.s.Ok)(hB:B<=w.heap.size)(hz:m.Sz 900000000)(hk:k<ol.ai.length):
 Calls prog 118 #[.pointer (some ⟨mb,0,none⟩),.int .i64 k] w λx w'=>x= .returned (.tuple #[])/\Mm w' B mb ob po (dA ol m k)/\Kp (km B mb w) w w':=by
 obtain⟨t,ht⟩:∃s,ol.ai[k]? =some s:=⟨_,ar hk⟩
 have aO:(k:Int)<(ol.ai.length:Int):=by omega
 have ad:a_ ol.ai k=t.kind:=by simp[a_,gR,ht]
 have F_:aN ol.ai k=t.parent:=by simp[aN,gR,ht]
 have aI:=G.up k t ht;obtain⟨qv,ov,hm,U,oo,J⟩:=id h;have E1:=af (Ja w mb 1 [.pointer (some ⟨ob,po,none⟩)] m.s.act (cX m.s++[qv,ov]) 149 k hm hs.1.1 rfl);have HH:=af (ae h (ae O (ae hm (ae U (ae oo J)))));have am:=tG G k 94 (m:=dN m k true) (n:=900000000) hz;have F:=nP hs (k:Int) true;have aj:=vi (k:Int) 94 ol.eR F;clear h O hm U oo J
 cases q1:t.kind==4 with
 |false=>
  rw[show dA ol m k=d_ k 94 ol.eR (dN m k true)by unfold dA;rw[ad,q1];rfl]
  go_enter func118,ntmps118
  go_wp2_with fail
  refine b9 E1 ?_;rintro x w1 ⟨rfl,h1,K1⟩;obtain⟨h,O,hm,U,oo,J⟩:=HH.out;obtain⟨Y,I⟩:=Mm.put (s':=(dN m k true).s) hm U oo J K1 (by exact h1);have D:=h.pl I O;have E2:=af (qY w1 B mb ob po (dN m k true) ol k 94 D G Y F (by have:=I.size;omega) ⟨by have:=hz.1;show m.q.length<=_;omega,by have:=hz.2;show m.out.length<=_;omega⟩);have HM:=af Y;clear h O hm U oo J HH E1 h1 K1 Y
  go_wp2_with fail
  refine b9 E2 ?_;rintro x w2 ⟨rfl,Z,X⟩;have E:=HM.out.pl X D;have aa:=Z.kb;obtain⟨g,cap,c2,a0,a1,a2,a3⟩:=E.str.at_ ht;have WZ:=Km.trans I X;clear E2 HM X I E D;go_wp2
  go_end0
  exact⟨rfl,Z,WZ⟩
 |true=>?_
 rw[show dA ol m k=gU ol.ai (d_ k 94 ol.eR (dN m k true)) t.parent by unfold dA;rw[ad,q1,F_];rfl]
 go_enter func118,ntmps118
 go_wp2_with fail
 refine b9 E1 ?_;rintro x w1 ⟨rfl,h1,K1⟩;obtain⟨h,O,hm,U,oo,J⟩:=HH.out;obtain⟨Y,I⟩:=Mm.put (s':=(dN m k true).s) hm U oo J K1 (by exact h1);have D:=h.pl I O;have E2:=af (qY w1 B mb ob po (dN m k true) ol k 94 D G Y F (by have:=I.size;omega) ⟨by have:=hz.1;show m.q.length<=_;omega,by have:=hz.2;show m.out.length<=_;omega⟩);have HM:=af Y;clear h O hm U oo J HH E1 h1 K1 Y
 go_wp2_with fail
 refine b9 E2 ?_;rintro x w2 ⟨rfl,Z,X⟩;have E:=HM.out.pl X D;have aa:=Z.kb;obtain⟨g,cap,c2,a0,a1,a2,a3⟩:=E.str.at_ ht;have WZ:=Km.trans I X;have E3:=af (DB w2 B mb ob po ol (d_ k 94 ol.eR (dN m k true)) t.parent E G Z aj (by have:=WZ.size;omega) ⟨by have:=am.1;omega,by have:=am.2;omega⟩ aI.1 (by omega));clear E2 HM X I E D Z
 go_wp2_with fail
 refine b9 E3 ?_;rintro x w3 ⟨rfl,M3,K3⟩;have ao:=Km.trans WZ K3;clear E3 K3 WZ a0 a1 a2 a3 c2 aa;go_wp2
 go_end0
 exact⟨rfl,M3,ao⟩
end
section
variable (w:World) (B mb ob po:Nat) (ol:Ol)
theorem Ky(m:Ma)(lb:Nat)(l:List Bool)(hL:kP w lb [] l [] 91)(am:l.length=16)(hp:Pl w ob po ol)(J:ol.Ok)(h:Mm w B mb ob po m)(hs:m.s.Ok)(hB:B<=w.heap.size)(hz:m.Sz 900000000):
 Calls prog 133 #[.pointer (some ⟨mb,0,none⟩),.pointer (some ⟨lb,0,none⟩)] w λx w'=>x= .returned (.tuple #[])/\Mm w' B mb ob po (cM ol l ol.ai.length m)/\Kp (km B mb w) w w':=by
 have cp:=h.kb;obtain⟨ao,cap,c2⟩:=hp.str.len;have An:=J.ai;have a0:=hz.1;have a1:=hz.2
 go_enter func133,ntmps133
 go_wp2_with fail
 go_loopw [4] (λi wr=>∃(k:Nat) (D:Ma),i= .int .i64 ((k:Int)-1)/\k<=ol.ai.length/\Hid (cM ol l ol.ai.length m=cM ol l k D)/\Mm wr B mb ob po D/\D.s.Ok/\D.Sz (900000000+115200*(ol.ai.length-k))/\Kp (km B mb w) w wr) (λi _=>(intOf i+1).toNat)
 case atStart=>exact⟨ol.ai.length,m,by go_num,aC _,af rfl,h,hs,⟨by omega,by omega⟩,Kp.refl _ _⟩
 case round=>
  obtain⟨k,D,rfl,hk,U,G,O,F,X⟩:=hrel;have I:=h.pl X hp;have NX:kP _ _ _ _ _ _:=h.at_ X hL (by decide) (by decide)
  have aI:B<=wr.heap.size:=by have:=X.size;omega
  cases k with
  |zero=>
   have Z:=af (U.out.trans (show _=D from rfl));clear U I NX cp c2;go_wp2
   go_end0
   rw[Z.out];exact⟨rfl,G,X⟩
  |succ k=>?_
  have e1:((k+1:Nat):Int)-1=k:=by omega
  rw[e1];have Y:=af (lW wr lb 0 [] l [] 91 k NX am rfl)
  have aS:(0:Int)<=(k:Int):=by omega
  cases q1:Ch.has l (k:Int)with
  |false=>
   rw[q1]at Y;have Z:=af (U.out.trans (show _=cM ol l k D by simp only[cM];rw[q1];rfl));clear U I NX cp c2 e1
   go_wp2_with fail
   refine b9 Y ?_;rintro x w1 ⟨rfl,rfl⟩;go_wp2
   go_roundw
   case rel=>exact⟨k,D,by go_num,by omega,Z,G,O,⟨by have:=F.1;omega,by have:=F.2;omega⟩,X⟩
   case measure=>simp[intOf]
  |true=>?_
  rw[q1]at Y;have Z:=af (U.out.trans (show _=cM ol l k (dN (d_ k 36 ol.eR D) k false)by simp only[cM];rw[q1];rfl))
  have aO:D.Sz 990000000:=⟨by have:=F.1;omega,by have:=F.2;omega⟩
  have E2:=af (qY wr B mb ob po D ol k 36 I J G O aI aO);have aj:=tG J (k:Int) 36 F;have eD:=vi (k:Int) 36 ol.eR O;have ad:=nP eD (k:Int) false;clear U I NX cp c2 e1 G
  go_wp2_with fail
  refine b9 Y ?_;rintro x w1 ⟨rfl,rfl⟩
  go_wp2_with fail
  refine b9 E2 ?_;rintro x w2 ⟨rfl,M2,K2⟩;have K3:=Km.trans X K2;obtain⟨qv,ov,E,oq,oo,ap⟩:=id M2;have E3:=af (NH w2 mb 1 [.pointer (some ⟨ob,po,none⟩)] (d_ k 36 ol.eR D).s.act (cX (d_ k 36 ol.eR D).s++[qv,ov]) 149 k E eD.1.1 rfl);have HH:=af (ae E (ae oq (ae oo ap)));clear Y E2 K2 M2 E oq oo ap
  go_wp2_with fail
  refine b9 E3 ?_;rintro x w4 ⟨rfl,h4,K4⟩;obtain⟨E,oq,oo,ap⟩:=HH.out;obtain⟨M4,aa⟩:=Mm.put (s':=(dN (d_ k 36 ol.eR D) k false).s) E oq oo ap K4 (by exact h4);have K5:=Km.trans K3 aa;clear E3 HH E oq oo ap h4 K4 aa K3;go_wp2
  go_roundw
  case rel=>exact⟨k,_,by go_num,by omega,Z,M4,ad,⟨by have:=aj.1;show(d_ k 36 ol.eR D).q.length<=_;omega,by have:=aj.2;show(d_ k 36 ol.eR D).out.length<=_;omega⟩,K5⟩
  case measure=>simp[intOf]
end
namespace Ch
def holds(s:Sd)(g:Gd):Bool:=
 if g.sign==60 then decide (var s g.var<g.digit)else if g.sign==61 then var s g.var==g.digit else if g.sign==62 then decide (g.digit<var s g.var)else true
def sC(ss:List St)(act:List Bool)(k:Nat):Bool:=has act (k:Int)&&(a_ ss k==1||a_ ss k==4)
end Ch
section
variable (w:World) (mb ob po:Nat) (s:Sd) (qv ov:Value) (ol:Ol)
theorem KH(g:Gd)(hm:iW w mb ob po s qv ov)(hw:s.Wf):
 Calls prog 255 #[.pointer (some ⟨mb,0,none⟩),.agg #[.int .u8 g.var,.int .u8 g.sign,.int .i64 g.digit]] w λx w'=>x= .returned (.bool (Ch.holds s g))/\Kp (λ_=>False) w w':=by
 have I:Kp (λ_=>False) w (w.alloc (.cells #[.int .u8 g.var,.int .u8 g.sign,.int .i64 g.digit] 206)):=(Kp.refl _ _).alloc _;have e1:=an w (.cells #[.int .u8 g.var,.int .u8 g.sign,.int .i64 g.digit] 206);have D:iW _ _ _ _ _ _ _:=ey.az hm I (λx=>x)
 have c0:(w.alloc (.cells #[.int .u8 g.var,.int .u8 g.sign,.int .i64 g.digit] 206)).cell? ⟨w.heap.size,0,none⟩=some (.int .u8 g.var):=by rw[World.cell?,e1];rfl
 have c1:(w.alloc (.cells #[.int .u8 g.var,.int .u8 g.sign,.int .i64 g.digit] 206)).cell? ⟨w.heap.size,1,none⟩=some (.int .u8 g.sign):=by rw[World.cell?,e1];rfl
 have c2:(w.alloc (.cells #[.int .u8 g.var,.int .u8 g.sign,.int .i64 g.digit] 206)).cell? ⟨w.heap.size,2,none⟩=some (.int .i64 g.digit):=by rw[World.cell?,e1];rfl
 have E:=af (qW ((w.alloc (.cells #[.int .u8 g.var,.int .u8 g.sign,.int .i64 g.digit] 206))).drew mb 1 [.pointer (some ⟨ob,po,none⟩)] s [qv,ov] 149 g.var (by exact D) hw rfl);have F:=af I.drew;clear hm D e1 I
 have nv:Ch.holds s g=if g.sign==60 then decide (Ch.var s g.var<g.digit)else if g.sign==61 then Ch.var s g.var==g.digit else if g.sign==62 then decide (g.digit<Ch.var s g.var)else true:=rfl
 cases G:g.sign==60 with
 |true=>
  rw[show Ch.holds s g=decide (Ch.var s g.var<g.digit)by rw[nv,G];rfl];clear nv
  go_enter func255,ntmps255
  go_upto_region 1 with(fail)
  generalize (w.alloc (.cells #[.int .u8 g.var,.int .u8 g.sign,.int .i64 g.digit] 206))=O at*
  go_region_with (go_at_call 257;refine b9 E ?_;rintro x U ⟨rfl,rfl⟩)
  all_goals
   go_wp2;go_ret;exact⟨rfl,F.out⟩
 |false=>?_
 cases J:g.sign==61 with
 |true=>
  rw[show Ch.holds s g=(Ch.var s g.var==g.digit)by rw[nv,G,J];rfl];clear nv
  go_enter func255,ntmps255
  go_upto_region 1 with(fail)
  generalize (w.alloc (.cells #[.int .u8 g.var,.int .u8 g.sign,.int .i64 g.digit] 206))=O at*
  go_region_with (go_at_call 257;refine b9 E ?_;rintro x U ⟨rfl,rfl⟩)
  all_goals
   go_wp2;go_ret;exact⟨rfl,F.out⟩
 |false=>?_
 cases X:g.sign==62 with
 |true=>
  rw[show Ch.holds s g=decide (g.digit<Ch.var s g.var)by rw[nv,G,J,X];rfl];clear nv
  go_enter func255,ntmps255
  go_upto_region 1 with(fail)
  generalize (w.alloc (.cells #[.int .u8 g.var,.int .u8 g.sign,.int .i64 g.digit] 206))=O at*
  go_region_with (go_at_call 257;refine b9 E ?_;rintro x U ⟨rfl,rfl⟩)
  all_goals
   go_wp2;go_ret;exact⟨rfl,F.out⟩
 |false=>?_
 rw[show Ch.holds s g=true by rw[nv,G,J,X];rfl];clear nv
 go_enter func255,ntmps255
 go_upto_region 1 with(fail)
 generalize (w.alloc (.cells #[.int .u8 g.var,.int .u8 g.sign,.int .i64 g.digit] 206))=O at*
 go_region_with (go_at_call 257;refine b9 E ?_;rintro x U ⟨rfl,rfl⟩)
 all_goals
  go_wp2;go_ret;exact⟨rfl,F.out⟩
theorem GO(k:Nat)(hm:iW w mb ob po s qv ov)(hw:s.Wf)(G:Pl w ob po ol)(hk:k<ol.ai.length):
 Calls prog 173 #[.pointer (some ⟨mb,0,none⟩),.int .i64 k] w λx w'=>x= .returned (.bool (sC ol.ai s.act k))/\w'=w:=by
 obtain⟨t,F⟩:∃s,ol.ai[k]? =some s:=⟨_,ar hk⟩
 have O:(k:Int)<(ol.ai.length:Int):=by omega
 have cp:=hm.kb;obtain⟨g,cap,c2,U,X,Y,Z⟩:=G.str.at_ F
 have E:a_ ol.ai k=t.kind:=by simp[a_,gR,F]
 have D:=af (lW w mb 1 [.pointer (some ⟨ob,po,none⟩)] s.act (cX s++[qv,ov]) 149 k hm hw.1 rfl)
 have nv:sC ol.ai s.act k=(Ch.has s.act (k:Int)&&(t.kind==1||t.kind==4)):=by unfold sC;rw[E]
 rw[nv];clear nv E hm G F
 cases I:Ch.has s.act (k:Int)with
 |false=>
  rw[I]at D
  go_enter func173,ntmps173
  go_wp2_with fail
  refine b9 D ?_;rintro x J ⟨rfl,rfl⟩;go_wp2;go_ret;exact⟨rfl,rfl⟩
 |true=>?_
 rw[I]at D
 cases q2:t.kind==1 with
 |true=>
  go_enter func173,ntmps173
  go_wp2_with fail
  refine b9 D ?_;rintro x J ⟨rfl,rfl⟩;go_wp2;go_ret;exact⟨rfl,rfl⟩
 |false=>?_
 go_enter func173,ntmps173
 go_wp2_with fail
 refine b9 D ?_;rintro x J ⟨rfl,rfl⟩;go_wp2;go_ret;exact⟨rfl,rfl⟩
end
def bI(l:List Int):List Value:=l.map (Value.int .i64)
def vj(w:World)(v:Value)(l:List Int):Prop:=∃base,w.ownsRow base 3 1 v l.length (bI l)
theorem vj.az{S:Nat->Prop}{w w':World}{v:Value}{l:List Int}(h:vj w v l)(k:Kp S w w')(hs:∀i D,w.heap[i]? =some (.cells D 3 (0,0))->¬S i):vj w' v l:=by
 obtain⟨base,E⟩:=h;exact⟨base,k.owns E (λi hi=>by obtain⟨D,F⟩:=bz E hi;exact hs i D F)⟩
theorem vj.len{w:World}{v:Value}{l:List Int}(h:vj w v l):∃D cap,v= .slice D l.length cap:=by
 obtain⟨base,E⟩:=h;exact bn E
theorem vj.at_{w:World}{v:Value}{l:List Int}(h:vj w v l){k:Nat}{n:Int}(E:l[k]? =some n):∃g cap,v= .slice (some ⟨g,0,none⟩) l.length cap/\w.cell? ⟨g,k,none⟩=some (.int .i64 n):=by
 obtain⟨base,D⟩:=h;have hk:=(aJ.1 E).1;obtain⟨g,cap,rfl⟩:=ij D (by omega);refine⟨g,cap,rfl,(D.cellAt k (by omega)).trans ?_⟩;grind[bI]
section
variable (w:World)
theorem vk(v:Value)(l:List Int)(n:Int)(h:vj w v l)(hl:l.length<=100000):
 Calls prog 175 #[v,.int .i64 n] w λx w'=>x= .returned (.bool (l.any (· ==n)))/\w'=w:=by
 obtain⟨Z,cap,rfl⟩:=h.len
 go_enter func175,ntmps175
 go_wp2_with fail
 go_loop [5] (λi=>∃k:Nat,i= .int .i64 k/\k<=l.length/\Hid (l.any (· ==n)=(l.drop k).any (· ==n))) (λi=>l.length-(intOf i).toNat)
 case atStart=>exact⟨0,rfl,aG _,af rfl⟩
 case round=>
  obtain⟨k,rfl,hk,D⟩:=hrel
  by_cases F:k<l.length
  ·have U:(k:Int)<(l.length:Int):=by omega
   obtain⟨a,I⟩:∃s,l[k]? =some s:=⟨_,ar F⟩
   obtain⟨g,J,O,Y⟩:=h.at_ I;simp only[aK,bS]at O;obtain⟨rfl,rfl⟩:=O
   have G:l.drop k=a::l.drop (k+1):=by
    rw[eZ F];congr 1;exact(aJ.1 I).2
   cases q:a==n with
   |true=>
    have E:=af (D.out.trans (show _=true by rw[G,List.any_cons,q];rfl));clear G I D h;go_wp2;go_ret;exact⟨by rw[E.out];rfl,rfl⟩
   |false=>?_
   have E:=af (D.out.trans (show _=(l.drop (k+1)).any (· ==n)by rw[G,List.any_cons,q];rfl));clear G I D h;go_wp2
   go_round
   case rel=>exact⟨k+1,by go_num,by omega,E⟩
   case measure=>simp[intOf];omega
  have E:=af (D.out.trans (show _=false by rw[c_ (by omega)];rfl))
  have X:¬(k:Int)<(l.length:Int):=by omega
  clear D;go_wp2;go_ret;exact⟨by rw[E.out];rfl,rfl⟩
end
namespace Ch
def ue(s:Sd)(st trg:Int)(t:Tr):Bool:=(t.state==st)&&(t.qP==trg)&&holds s t.guard
def gF(s:Sd)(st trg:Int):List Tr->Nat->Int
 | [],_=>-2
 |t::l,k=>if ue s st trg t then k else gF s st trg l (k+1)
def ke(ol:Ol)(s:Sd)(st trg:Int):Int:=gF s st trg ol.cW 0
def cZ(ol:Ol)(s:Sd)(trg:Int):Nat->Int->Int
 |0,_=>-2
 |f+1,i=>if i== -1 then-2 else if ke ol s i trg != -2 then ke ol s i trg else cZ ol s trg f (aN ol.ai i)
def de(ol:Ol)(s:Sd)(D trg:Int):Int:=cZ ol s trg (D+2).toNat D
theorem GP(s:Sd)(st trg:Int):∀(l:List Tr) (k:Nat),gF s st trg l k= -2\/∃j:Nat,gF s st trg l k=j/\k<=j/\j<k+l.length:=by
 intro l
 induction l with
 |nil=>intro k;exact .inl rfl
 |cons t l D=>?_
 grind[gF]
theorem KI(ol:Ol)(s:Sd)(st trg:Int):ke ol s st trg= -2\/∃j:Nat,ke ol s st trg=j/\j<ol.cW.length:=by
 rcases GP s st trg ol.cW 0 with h|⟨j,e,_,D⟩
 ·exact .inl h
 exact .inr ⟨j,e,by omega⟩
theorem sD(ol:Ol)(s:Sd)(trg:Int):∀(f:Nat) (i:Int),cZ ol s trg f i= -2\/∃j:Nat,cZ ol s trg f i=j/\j<ol.cW.length:=by
 intro f
 induction f with
 |zero=>intro i;exact .inl rfl
 |succ f D=>?_
 grind[cZ,KI]
end Ch
section
variable (w:World) (mb ob po:Nat) (s:Sd) (qv ov:Value) (ol:Ol)
theorem GQ(st trg:Int)(hm:iW w mb ob po s qv ov)(hw:s.Wf)(hp:Pl w ob po ol)(ad:ol.Ok):
 Calls prog 221 #[.pointer (some ⟨mb,0,none⟩),.int .i64 st,.int .u8 trg] w λx w'=>x= .returned (.int .i64 (ke ol s st trg))/\Kp (λ_=>False) w w':=by
 have hl:=ad.cW
 go_enter func221,ntmps221
 go_wp2_with fail
 go_loopw [7] (λi wr=>∃k:Nat,i= .int .i64 k/\k<=ol.cW.length/\Hid (ke ol s st trg=gF s st trg (ol.cW.drop k) k)/\Kp (λ_=>False) w wr) (λi _=>ol.cW.length-(intOf i).toNat)
 case atStart=>exact⟨0,rfl,aG _,af rfl,Kp.refl _ _⟩
 case round=>
  obtain⟨k,rfl,hk,O,KW⟩:=hrel;have D:iW _ _ _ _ _ _ _:=ey.az hm KW (λx=>x);have E:=hp.az KW (λ_ _ _ _ _ x=>x);have cp:=D.kb
  by_cases aa:k<ol.cW.length
  ·have aj:(k:Int)<(ol.cW.length:Int):=by omega
   obtain⟨t,Y⟩:∃s,ol.cW[k]? =some s:=⟨_,ar aa⟩
   obtain⟨g,cap,ac,base,c3,F,G⟩:=E.tr Y;obtain⟨Wh,Ku,rfl⟩:=bn G;have a0:=F 0 (by omega);have a1:=F 1 (by omega);have a2:=F 2 (by omega);have a3:=F 3 (by omega);have a4:=F 4 (by omega);have a5:=F 5 (by omega);have a6:=F 6 (by omega);simp only[gh,gq,l5]at a0 a1 a2 a3 a4 a5 a6
   have X:ol.cW.drop k=t::ol.cW.drop (k+1):=by
    rw[eZ aa];congr 1;exact(aJ.1 Y).2
   have KB:Kp (λ_=>False) wr (wr.alloc (.cells #[.int .i64 t.state,.int .u8 t.qP,.int .u8 t.guard.var,.int .u8 t.guard.sign,.int .i64 t.guard.digit,.slice Wh t.bD.length Ku,.int .u8 t.target] 209)):=(Kp.refl _ _).alloc _;have U:=KW.trans KB;have J:=af (KH (wr.alloc (.cells #[.int .i64 t.state,.int .u8 t.qP,.int .u8 t.guard.var,.int .u8 t.guard.sign,.int .i64 t.guard.digit,.slice Wh t.bD.length Ku,.int .u8 t.target] 209)) mb ob po s qv ov t.guard (ey.az D KB (λx=>x)) hw)
   have no:ue s st trg t=false->ke ol s st trg=gF s st trg (ol.cW.drop (k+1)) (k+1):=λq=>by
    rw[O.out,X];simp only[gF];rw[q];rfl
   cases q1:t.state==st with
   |false=>
    have I:=af (no (by unfold ue;rw[q1];rfl));clear X O Y F no G E D J KB;go_wp2
    go_roundw
    case rel=>exact⟨k+1,by go_num,by omega,I,U⟩
    case measure=>simp[intOf];omega
   |true=>?_
   cases q2:t.qP==trg with
   |false=>
    have I:=af (no (by unfold ue;rw[q2];simp));clear X O Y F no G E D J KB;go_wp2
    go_roundw
    case rel=>exact⟨k+1,by go_num,by omega,I,U⟩
    case measure=>simp[intOf];omega
   |true=>?_
   cases q3:Ch.holds s t.guard with
   |false=>
    rw[q3]at J;have I:=af (no (by unfold ue;rw[q3];simp));clear X O Y F no G E D KB
    go_wp2_with fail
    refine b9 J ?_;rintro x w2 ⟨rfl,Z⟩;have K3:=U.trans Z;clear J Z U a0 a1 a2 a3 a4 a5 a6 c3 cp;go_wp2
    go_roundw
    case rel=>exact⟨k+1,by go_num,by omega,I,K3⟩
    case measure=>simp[intOf];omega
   |true=>?_
   rw[q3]at J;have I:=af (show ke ol s st trg=(k:Int)by rw[O.out,X];simp only[gF];rw[aq (by unfold ue;rw[q1,q2,q3];rfl)]);clear X O Y F no G E D KB
   go_wp2_with fail
   refine b9 J ?_;rintro x w2 ⟨rfl,Z⟩;have K3:=U.trans Z;clear J Z U a0 a1 a2 a3 a4 a5 a6 c3 cp;go_wp2;go_ret;exact⟨by rw[I.out];rfl,K3⟩
  have am:¬(k:Int)<(ol.cW.length:Int):=by omega
  have I:=af (O.out.trans (show _=(-2:Int)by rw[c_ (by omega)];rfl));obtain⟨ao,cap,c3⟩:=E.WU;clear O E D;go_wp2;go_ret;exact⟨by rw[I.out];rfl,KW⟩
theorem Cj(D trg:Int)(aa: -1<=D)(hm:iW w mb ob po s qv ov)(hw:s.Wf)(hp:Pl w ob po ol)(G:ol.Ok):
 Calls prog 174 #[.pointer (some ⟨mb,0,none⟩),.int .i64 D,.int .u8 trg] w λx w'=>x= .returned (.int .i64 (de ol s D trg))/\Kp (λ_=>False) w w':=by
 have hl:=G.ai
 go_enter func174,ntmps174
 go_wp2_with fail
 go_loopw [7] (λv wr=>∃(i:Int) (f:Nat),v= .int .i64 i/\ -1<=i/\i+2<=(f:Int)/\Hid (de ol s D trg=cZ ol s trg f i)/\Kp (λ_=>False) w wr) (λv _=>(intOf v+1).toNat)
 case atStart=>exact⟨D,(D+2).toNat,rfl,aa,by omega,af rfl,Kp.refl _ _⟩
 case round=>
  obtain⟨i,f,rfl,hi,hf,U,O⟩:=hrel;have E:iW _ _ _ _ _ _ _:=ey.az hm O (λx=>x);have F:=hp.az O (λ_ _ _ _ _ x=>x)
  obtain⟨f,rfl⟩:∃g,f=g+1:=⟨f-1,by omega⟩
  cases q1:i != -1 with
  |false=>
   have X:=af (U.out.trans (show _=(-2:Int)by simp only[cZ];rw[aq (by simpa using q1)]));clear U E F;go_wp2;go_ret;exact⟨by rw[X.out];rfl,O⟩
  |true=>?_
  have ad:i≠ -1:=by simpa using q1
  have p1:=iy G.up (i:=i) (by omega);have p2:=gE G.up i;have Z:=af (GQ wr mb ob po s qv ov ol i trg E hw F G)
  have I:¬(i== -1)=true:=by simpa using ad
  have HM:=af (ae E F)
  cases q2:ke ol s i trg != -2 with
  |true=>
   have X:=af (U.out.trans (show _=ke ol s i trg by simp only[cZ];rw[ay I,aq q2]));clear U E F I
   go_wp2_with fail
   refine b9 Z ?_;rintro x w2 ⟨rfl,J⟩;have K3:=O.trans J;clear Z J O;go_wp2;go_ret;exact⟨by rw[X.out];rfl,K3⟩
  |false=>?_
  have X:=af (U.out.trans (show _=cZ ol s trg f (aN ol.ai i)by simp only[cZ];rw[ay I,ay (by rw[q2];exact Bool.false_ne_true)]));clear U E F I
  go_wp2_with fail
  refine b9 Z ?_;rintro x w2 ⟨rfl,J⟩;have K3:=O.trans J;have Y:=HM.out.2.az J (λ_ _ _ _ _ x=>x);have cp:=iW.kb (ey.az HM.out.1 J (λx=>x));have E2:=af (iR ob po w2 ol.ai i Y.str (by omega));clear Z J O HM Y
  go_wp2_with fail
  refine b9 E2 ?_;rintro x w3 ⟨rfl,rfl⟩;go_wp2
  go_roundw
  case rel=>exact⟨_,f,rfl,p2,by omega,X,K3⟩
  case measure=>simp[intOf];omega
end
theorem lX:(prog.info? 3).map (λi=>(i.zero,i.size,i.bytes))=some (some (.int .i64 0),1,8):=by kernel_rfl
namespace Ch
def gG(ol:Ol)(k:Nat):Int:=match ol.cW[k]? with|some t=>t.state|none=>0
def within(ol:Ol)(t other:Nat):Bool:=aB ol.ai (gG ol other) (gG ol t)
def fJ(ol:Ol)(s:Sd)(trg:Int)(D:List Int)(k:Nat):List Int:=
 if sC ol.ai s.act k&&(de ol s k trg != -2)&& !(D.any (· ==de ol s k trg))then D++[de ol s k trg]else D
def kR(ol:Ol)(s:Sd)(trg:Int):Nat->Nat->List Int->List Int
 |0,_,D=>D
 |f+1,k,D=>kR ol s trg f (k+1) (fJ ol s trg D k)
def find(ol:Ol)(s:Sd)(trg:Int):List Int:=kR ol s trg ol.ai.length 0 []
end Ch
section
variable (w:World) (mb ob po:Nat) (s:Sd) (qv ov:Value) (ol:Ol)
theorem N7(trg:Int)(hm:iW w mb ob po s qv ov)(hw:s.Wf)(hp:Pl w ob po ol)(ad:ol.Ok):
 Calls prog 129 #[.pointer (some ⟨mb,0,none⟩),.int .u8 trg] w λx w'=>∃v,x= .returned v/\w'.ownsRow w.heap.size 3 1 v (Ch.find ol s trg).length (bI (Ch.find ol s trg))/\Kp (λ_=>False) w w':=by
 have hl:=ad.ai;obtain⟨i0,hi,aj,am,ap⟩:=bY lX
 go_enter func129,ntmps129
 go_wp2_with fail
 go_loopw [5,6] (λfv i wr=>∃(k:Nat) (G:List Int),i= .int .i64 k/\k<=ol.ai.length/\wr.ownsRow w.heap.size 3 1 fv G.length (bI G)/\G.length<=k/\Hid (Ch.find ol s trg=kR ol s trg (ol.ai.length-k) k G)/\Kp (λ_=>False) w wr) (λ_ i _=>ol.ai.length-(intOf i).toNat)
 case atStart=>exact⟨0,[],rfl,aG _,bT _ _ _ _,aC _,af rfl,Kp.refl _ _⟩
 case round=>
  obtain⟨k,G,rfl,hk,D,aO,Y,J⟩:=hrel;have E:iW _ _ _ _ _ _ _:=ey.az hm J (λx=>x);have F:=hp.az J (λ_ _ _ _ _ x=>x);have cp:=E.kb;obtain⟨ao,cap,c2⟩:=F.str.len
  by_cases aa:k<ol.ai.length
  ·have aI:(k:Int)<(ol.ai.length:Int):=by omega
   have ef:ol.ai.length-k=(ol.ai.length-(k+1))+1:=by omega
   have U:=af (GO wr mb ob po s qv ov ol k E hw F aa);have Z:=af (Cj wr mb ob po s qv ov ol k trg (by omega) E hw F ad)
   have no:fJ ol s trg G k=G->Ch.find ol s trg=kR ol s trg (ol.ai.length-(k+1)) (k+1) G:=λq=>by
    rw[Y.out,ef];simp only[kR];rw[q]
   cases q1:sC ol.ai s.act k with
   |false=>
    rw[q1]at U;have X:=af (no (by unfold fJ;rw[q1];rfl));clear Y no ef E F Z
    go_wp2_with fail
    refine b9 U ?_;rintro x w1 ⟨rfl,rfl⟩;go_wp2
    go_roundw
    case rel=>exact⟨k+1,G,by go_num,by omega,D,by omega,X,J⟩
    case measure=>simp[intOf];omega
   |true=>?_
   rw[q1]at U
   cases q2:de ol s k trg != -2 with
   |false=>
    have X:=af (no (by unfold fJ;rw[q1,q2];rfl));clear Y no ef E F
    go_wp2_with fail
    refine b9 U ?_;rintro x w1 ⟨rfl,rfl⟩
    go_wp2_with fail
    refine b9 Z ?_;rintro x w2 ⟨rfl,I⟩;have K3:=J.trans I;have O:=I.owns D (λ_ _ x=>x);clear U Z I J cp c2 D;go_wp2
    go_roundw
    case rel=>exact⟨k+1,G,by go_num,by omega,O,by omega,X,K3⟩
    case measure=>simp[intOf];omega
   |true=>?_
   cases q3:G.any (· ==de ol s k trg)with
   |true=>
    have X:=af (no (by unfold fJ;rw[q1,q2,q3];rfl));clear Y no ef E F
    go_wp2_with fail
    refine b9 U ?_;rintro x w1 ⟨rfl,rfl⟩
    go_wp2_with fail
    refine b9 Z ?_;rintro x w2 ⟨rfl,I⟩;have K3:=J.trans I;have O:=I.owns D (λ_ _ x=>x);have E3:=af (vk w2 u5 G (de ol s k trg) ⟨_,O⟩ (by omega));rw[q3]at E3;clear U Z I J cp c2 D
    go_wp2_with fail
    refine b9 E3 ?_;rintro x w3 ⟨rfl,rfl⟩;go_wp2
    go_roundw
    case rel=>exact⟨k+1,G,by go_num,by omega,O,by omega,X,K3⟩
    case measure=>simp[intOf];omega
   |false=>?_
   have X:=af (show Ch.find ol s trg=kR ol s trg (ol.ai.length-(k+1)) (k+1) (G++[de ol s k trg])by
    rw[Y.out,ef];simp only[kR];congr 1;unfold fJ;rw[q1,q2,q3];rfl)
   clear Y no ef E F
   go_wp2_with fail
   refine b9 U ?_;rintro x w1 ⟨rfl,rfl⟩
   go_wp2_with fail
   refine b9 Z ?_;rintro x w2 ⟨rfl,I⟩;have K3:=J.trans I;have O:=I.owns D (λ_ _ x=>x);have E3:=af (vk w2 u5 G (de ol s k trg) ⟨_,O⟩ (by omega));rw[q3]at E3;clear U Z I J cp c2 D
   go_wp2_with fail
   refine b9 E3 ?_;rintro x w3 ⟨rfl,rfl⟩;clear E3
   go_wp2_with (at_builtin;refine hJ _ rfl (.tmp 36) (.tmp 38) 38 rfl w.heap.size 3 i0 (.int .i64 0) 1 8 underlying38 hi aj am ap rfl (by decide) _ _ _ rfl (O.alloc _) ⟨w3.heap.size,0,none⟩ 1 1 [.int .i64 (de ol s k trg)] rfl rfl ?c1 ?c2 ?c3 ?c4 ?c5 ?_)
   case c1=>exact fy _ _ _
   case c2=>intro u hu;simp at hu;subst hu;rfl
   case c3=>unfold maxLen;omega
   case c4=>omega
   case c5=>have:=K3.size;simp;omega
   intro v4 w4 o4 g4 _;have K4:=Kp.grown (K3.alloc _) g4 (λi hi aa=>by have:=(O.lt i hi).1;omega);clear g4 K3 O;go_wp2
   go_roundw
   case rel=>exact⟨k+1,_,by go_num,by omega,by simpa[bI]using o4,by simp;omega,X,K4⟩
   case measure=>simp[intOf];omega
  have aS:¬(k:Int)<(ol.ai.length:Int):=by omega
  have X:=af (Y.out.trans (show _=G by rw[show ol.ai.length-k=0 by omega];rfl));clear Y F E;go_wp2;go_ret;rw[X.out];exact⟨_,rfl,D,J⟩
end
section
variable (w:World) (mb ob po:Nat) (s:Sd) (qv ov:Value) (ol:Ol)
theorem GR(t other:Nat)(ht:t<ol.cW.length)(ho:other<ol.cW.length)(hm:iW w mb ob po s qv ov)(I:Pl w ob po ol)(F:ol.Ok):
 Calls prog 178 #[.pointer (some ⟨mb,0,none⟩),.int .i64 t,.int .i64 other] w λx w'=>x= .returned (.bool (Ch.within ol t other))/\Kp (λ_=>False) w w':=by
 obtain⟨a,O⟩:∃s,ol.cW[t]? =some s:=⟨_,ar ht⟩
 obtain⟨b,hb⟩:∃s,ol.cW[other]? =some s:=⟨_,ar ho⟩
 have aj:(t:Int)<(ol.cW.length:Int):=by omega
 have ad:(other:Int)<(ol.cW.length:Int):=by omega
 have cp:=hm.kb;obtain⟨g,cap,ac,base,c3,Y,U⟩:=I.tr O;obtain⟨g',X,aa,J,D,G,Z_⟩:=I.tr hb;rw[c3]at D;simp only[bq,aK,bS]at D;have Z:=D.1;simp only[dH,dx]at Z;subst Z;have a0:=Y 0 (by omega);have b0:=G 0 (by omega);simp only[gq,l5]at a0 b0;rw[show Ch.within ol t other=aB ol.ai b.state a.state by simp[Ch.within,gG,O,hb]];have An:=F.ai;have hU:=F.up;have E:=af (λn:Nat=>mj ob po (w.drewN n) ol.ai b.state a.state hU (by exact I.str) (by omega));clear Y G U Z_ O hb hm I D F
 go_enter func178,ntmps178
 go_upto_region 1 with(fail)
 go_quiet ((go_at_call 218;exact iZ (eE E _)))
 go_wp2;go_ret;exact⟨rfl,(Kp.refl _ _).drewN _⟩
end
namespace Ch
def lu(ss:List St)(D parent:Int):List Int->Bool
 | []=>D==dZ ss parent
 |g::l=>if aB ss parent g then(D==g||aB ss D g)else lu ss D parent l
end Ch
section
variable (w:World) (mb ob po:Nat) (s:Sd) (qv ov:Value) (ol:Ol)
theorem Cl(D parent:Int)(v:Value)(goals:List Int)(h:vj w v goals)(hl:goals.length<=100000)(hm:iW w mb ob po s qv ov)(hp:Pl w ob po ol)(Z:ol.Ok):
 Calls prog 165 #[.pointer (some ⟨mb,0,none⟩),.int .i64 D,.int .i64 parent,v] w λx w'=>x= .returned (.bool (lu ol.ai D parent goals))/\Kp (λ_=>False) w w':=by
 have An:=Z.ai;have hU:=Z.up;obtain⟨ao,cap,rfl⟩:=h.len
 go_enter func165,ntmps165
 go_wp2_with fail
 go_loopw [9] (λi wr=>∃k:Nat,i= .int .i64 k/\k<=goals.length/\Hid (lu ol.ai D parent goals=lu ol.ai D parent (goals.drop k))/\Kp (λ_=>False) w wr) (λi _=>goals.length-(intOf i).toNat)
 case atStart=>exact⟨0,rfl,aG _,af rfl,Kp.refl _ _⟩
 case round=>
  obtain⟨k,rfl,hk,G,J⟩:=hrel;have F:iW _ _ _ _ _ _ _:=ey.az hm J (λx=>x);have E:=hp.az J (λ_ _ _ _ _ x=>x);have hr:=h.az J (λ_ _ _ x=>x);have cp:=F.kb
  by_cases Y:k<goals.length
  ·have aj:(k:Int)<(goals.length:Int):=by omega
   obtain⟨a,X⟩:∃s,goals[k]? =some s:=⟨_,ar Y⟩
   obtain⟨g,ad,hg,a0⟩:=hr.at_ X;simp only[aK,bS]at hg;obtain⟨rfl,rfl⟩:=hg
   have O:goals.drop k=a::goals.drop (k+1):=by
    rw[eZ Y];congr 1;exact(aJ.1 X).2
   have U:=af (λn:Nat=>mj ob po (wr.drewN n) ol.ai parent a hU (by exact E.str) (by omega))
   cases q1:aB ol.ai parent a with
   |false=>
    simp only[q1]at U;have I:=af (G.out.trans (show _=lu ol.ai D parent (goals.drop (k+1))by rw[O];simp only[lu];rw[q1];rfl));clear O G X hr F E h
    go_upto_region 4 with(fail)
    go_quiet ((go_at_call 218;exact iZ (eE U _)))
    go_wp2
    go_roundw
    case rel=>exact⟨k+1,by go_num,by omega,I,J.drewN _⟩
    case measure=>simp[intOf];omega
   |true=>?_
   simp only[q1]at U
   have ap:∀n,(wr.drewN n).cell? ⟨mb,0,none⟩=some (.pointer (some ⟨ob,po,none⟩)):=λn=>cp
   have am:∀n,(wr.drewN n).cell? ⟨g,k,none⟩=some (.int .i64 a):=λn=>a0
   cases q2:D==a with
   |true=>
    have I:=af (G.out.trans (show _=true by rw[O];simp only[lu];rw[q1,q2];rfl));clear O G X hr F E h
    go_upto_region 4 with(fail)
    go_quiet ((go_at_call 218;exact iZ (eE U _)))
    go_upto_region 5 with(fail)
    go_quiet (fail)
    go_wp2;go_ret;exact⟨by rw[I.out];rfl,(J.drewN _).drewN _⟩
   |false=>?_
   have aa:=af (λn:Nat=>mj ob po (wr.drewN n) ol.ai D a hU (by exact E.str) (by omega));have I:=af (G.out.trans (show _=aB ol.ai D a by rw[O];simp only[lu];rw[q1,q2];rfl));clear O G X hr F E h
   go_upto_region 4 with(fail)
   go_quiet ((go_at_call 218;exact iZ (eE U _)))
   go_upto_region 5 with(fail)
   go_quiet ((go_at_call 218;exact bu (eE aa _) (λ_ _ h=>⟨h.1,_,h.2⟩)))
   go_wp2;go_ret;exact⟨by rw[I.out];rfl,(J.drewN _).drewN _⟩
  have aI:¬(k:Int)<(goals.length:Int):=by omega
  have I:=af (G.out.trans (show _=(D==dZ ol.ai parent)by rw[c_ (by omega)];rfl));have E3:=af (n_ ob po wr ol.ai parent E.str (by omega));clear G hr F E h
  go_wp2_with fail
  refine b9 E3 ?_;rintro x w1 ⟨rfl,rfl⟩;go_wp2;go_ret;exact⟨by rw[I.out];rfl,J⟩
end
namespace Ch
def jr(ss:List St)(act D:List Bool)(goals:List Int)(i:Int):Bool:=
 if has D i|| !aW ss i (aN ss i)then false
 else if(aN ss i != -1)&& !has act (aN ss i)then false
 else if a_ ss (aN ss i)==3 then true
 else !kept ss D (aN ss i)&&lu ss i (aN ss i) goals
end Ch
section
variable (w:World) (mb ob po:Nat) (s:Sd) (qv ov:Value) (ol:Ol)
theorem KJ(i:Int)(sb:Nat)(l:List Bool)(v:Value)(goals:List Int)(hL:kP w sb [] l [] 91)(aa:l.length=16)(h:vj w v goals)(hl:goals.length<=100000)(hm:iW w mb ob po s qv ov)(hw:s.Wf)(hp:Pl w ob po ol)(ad:ol.Ok):
 Calls prog 117 #[.pointer (some ⟨mb,0,none⟩),.int .i64 i,.pointer (some ⟨sb,0,none⟩),v] w λx w'=>x= .returned (.bool (jr ol.ai s.act l goals i))/\Kp (λ_=>False) w w':=by
 have An:=ad.ai;have cp:=hm.kb;have J:=af (iR ob po w ol.ai i hp.str (by omega));have E:=af (lW w sb 0 [] l [] 91 i hL aa rfl);have G:=af (mi ob po w ol.ai i (aN ol.ai i) hp.str (by omega));have Y:=af (lW w mb 1 [.pointer (some ⟨ob,po,none⟩)] s.act (cX s++[qv,ov]) 149 (aN ol.ai i) hm hw.1 rfl);have Z:=af (mh ob po w ol.ai (aN ol.ai i) hp.str (by omega));have U:=af (N6 w mb ob po s qv ov ol sb 0 [] l [] 91 (aN ol.ai i) hm hp (by omega) hL aa rfl);have E7:=af (Cl w mb ob po s qv ov ol i (aN ol.ai i) v goals h hl hm hp ad);clear hm hp hL h
 cases F:Ch.has l i with
 |true=>
  rw[F]at E;rw[show jr ol.ai s.act l goals i=false by unfold jr;simp[F]]
  go_enter func117,ntmps117
  go_wp2_with fail
  refine b9 J ?_;rintro x D ⟨rfl,rfl⟩
  go_wp2_with fail
  refine b9 E ?_;rintro x D ⟨rfl,rfl⟩;go_wp2;go_ret;exact⟨rfl,Kp.refl _ _⟩
 |false=>?_
 rw[F]at E
 cases I:aW ol.ai i (aN ol.ai i)with
 |true=>
  rw[I]at G
  cases q3:(aN ol.ai i)!= -1 with
  |true=>
   cases q4:Ch.has s.act (aN ol.ai i)with
   |true=>
    rw[q4]at Y
    cases X:a_ ol.ai (aN ol.ai i)==3 with
    |true=>
     rw[show jr ol.ai s.act l goals i=true by unfold jr;simp[F,I,q4,X]]
     go_enter func117,ntmps117
     go_wp2_with fail
     refine b9 J ?_;rintro x D ⟨rfl,rfl⟩
     go_wp2_with fail
     refine b9 E ?_;rintro x D ⟨rfl,rfl⟩
     go_wp2_with fail
     refine b9 G ?_;rintro x D ⟨rfl,rfl⟩
     go_wp2_with fail
     refine b9 Y ?_;rintro x D ⟨rfl,rfl⟩
     go_wp2_with fail
     refine b9 Z ?_;rintro x D ⟨rfl,rfl⟩;go_wp2;go_ret;exact⟨rfl,Kp.refl _ _⟩
    |false=>?_
    cases O:Ch.kept ol.ai l (aN ol.ai i)with
    |true=>
     rw[O]at U;rw[show jr ol.ai s.act l goals i=false by unfold jr;simp[F,I,q4,X,O]]
     go_enter func117,ntmps117
     go_wp2_with fail
     refine b9 J ?_;rintro x D ⟨rfl,rfl⟩
     go_wp2_with fail
     refine b9 E ?_;rintro x D ⟨rfl,rfl⟩
     go_wp2_with fail
     refine b9 G ?_;rintro x D ⟨rfl,rfl⟩
     go_wp2_with fail
     refine b9 Y ?_;rintro x D ⟨rfl,rfl⟩
     go_wp2_with fail
     refine b9 Z ?_;rintro x D ⟨rfl,rfl⟩
     go_wp2_with fail
     refine b9 U ?_;rintro x D ⟨rfl,rfl⟩;go_wp2;go_ret;exact⟨rfl,Kp.refl _ _⟩
    |false=>?_
    rw[O]at U;rw[show jr ol.ai s.act l goals i=lu ol.ai i (aN ol.ai i) goals by unfold jr;simp[F,I,q4,X,O]]
    go_enter func117,ntmps117
    go_wp2_with fail
    refine b9 J ?_;rintro x D ⟨rfl,rfl⟩
    go_wp2_with fail
    refine b9 E ?_;rintro x D ⟨rfl,rfl⟩
    go_wp2_with fail
    refine b9 G ?_;rintro x D ⟨rfl,rfl⟩
    go_wp2_with fail
    refine b9 Y ?_;rintro x D ⟨rfl,rfl⟩
    go_wp2_with fail
    refine b9 Z ?_;rintro x D ⟨rfl,rfl⟩
    go_wp2_with fail
    refine b9 U ?_;rintro x D ⟨rfl,rfl⟩
    go_wp2_with fail
    refine b9 E7 ?_;rintro x w7 ⟨rfl,K7⟩;go_wp2;go_ret;exact⟨rfl,K7⟩
   |false=>?_
   rw[q4]at Y;rw[show jr ol.ai s.act l goals i=false by unfold jr;simp[F,I,q3,q4]]
   go_enter func117,ntmps117
   go_wp2_with fail
   refine b9 J ?_;rintro x D ⟨rfl,rfl⟩
   go_wp2_with fail
   refine b9 E ?_;rintro x D ⟨rfl,rfl⟩
   go_wp2_with fail
   refine b9 G ?_;rintro x D ⟨rfl,rfl⟩
   go_wp2_with fail
   refine b9 Y ?_;rintro x D ⟨rfl,rfl⟩;go_wp2;go_ret;exact⟨rfl,Kp.refl _ _⟩
  |false=>?_
  cases X:a_ ol.ai (aN ol.ai i)==3 with
  |true=>
   rw[show jr ol.ai s.act l goals i=true by unfold jr;simp[F,I,q3,X]]
   go_enter func117,ntmps117
   go_wp2_with fail
   refine b9 J ?_;rintro x D ⟨rfl,rfl⟩
   go_wp2_with fail
   refine b9 E ?_;rintro x D ⟨rfl,rfl⟩
   go_wp2_with fail
   refine b9 G ?_;rintro x D ⟨rfl,rfl⟩
   go_wp2_with fail
   refine b9 Z ?_;rintro x D ⟨rfl,rfl⟩;go_wp2;go_ret;exact⟨rfl,Kp.refl _ _⟩
  |false=>?_
  cases O:Ch.kept ol.ai l (aN ol.ai i)with
  |true=>
   rw[O]at U;rw[show jr ol.ai s.act l goals i=false by unfold jr;simp[F,I,q3,X,O]]
   go_enter func117,ntmps117
   go_wp2_with fail
   refine b9 J ?_;rintro x D ⟨rfl,rfl⟩
   go_wp2_with fail
   refine b9 E ?_;rintro x D ⟨rfl,rfl⟩
   go_wp2_with fail
   refine b9 G ?_;rintro x D ⟨rfl,rfl⟩
   go_wp2_with fail
   refine b9 Z ?_;rintro x D ⟨rfl,rfl⟩
   go_wp2_with fail
   refine b9 U ?_;rintro x D ⟨rfl,rfl⟩;go_wp2;go_ret;exact⟨rfl,Kp.refl _ _⟩
  |false=>?_
  rw[O]at U;rw[show jr ol.ai s.act l goals i=lu ol.ai i (aN ol.ai i) goals by unfold jr;simp[F,I,q3,X,O]]
  go_enter func117,ntmps117
  go_wp2_with fail
  refine b9 J ?_;rintro x D ⟨rfl,rfl⟩
  go_wp2_with fail
  refine b9 E ?_;rintro x D ⟨rfl,rfl⟩
  go_wp2_with fail
  refine b9 G ?_;rintro x D ⟨rfl,rfl⟩
  go_wp2_with fail
  refine b9 Z ?_;rintro x D ⟨rfl,rfl⟩
  go_wp2_with fail
  refine b9 U ?_;rintro x D ⟨rfl,rfl⟩
  go_wp2_with fail
  refine b9 E7 ?_;rintro x w7 ⟨rfl,K7⟩;go_wp2;go_ret;exact⟨rfl,K7⟩
 |false=>?_
 rw[I]at G;rw[show jr ol.ai s.act l goals i=false by unfold jr;simp[F,I]]
 go_enter func117,ntmps117
 go_wp2_with fail
 refine b9 J ?_;rintro x D ⟨rfl,rfl⟩
 go_wp2_with fail
 refine b9 E ?_;rintro x D ⟨rfl,rfl⟩
 go_wp2_with fail
 refine b9 G ?_;rintro x D ⟨rfl,rfl⟩;go_wp2;go_ret;exact⟨rfl,Kp.refl _ _⟩
end
namespace Ch
def dQ(ol:Ol)(s:Sd):List Int->List Int
 | []=>[]
 |t::l=>match ol.cW[t.toNat]? with
  |some x=>if x.target==45 then dQ ol s l else kA ol.ai s (place ol.ai x.target)::dQ ol s l
  |none=>dQ ol s l
def wZ(ol:Ol)(l:List Int):Prop:=∀n∈l,0<=n/\n<(ol.cW.length:Int)
end Ch
section
variable (w:World) (mb ob po:Nat) (s:Sd) (qv ov:Value) (ol:Ol)
theorem KL(v:Value)(list:List Int)(h:vj w v list)(aa:wZ ol list)(hl:list.length<=1000)(hm:iW w mb ob po s qv ov)(hw:s.Wf)(hp:Pl w ob po ol)(ad:ol.Ok):
 Calls prog 116 #[.pointer (some ⟨mb,0,none⟩),v] w λx w'=>∃v',x= .returned v'/\w'.ownsRow w.heap.size 3 1 v' (dQ ol s list).length (bI (dQ ol s list))/\Kp (λ_=>False) w w':=by
 have An:=ad.ai;obtain⟨i0,hi,aj,am,ap⟩:=bY lX;obtain⟨ao,cap,rfl⟩:=h.len
 go_enter func116,ntmps116
 go_wp2_with fail
 go_loopw [5,6] (λfv i wr=>∃(k:Nat) (F:List Int),i= .int .i64 k/\k<=list.length/\wr.ownsRow w.heap.size 3 1 fv F.length (bI F)/\F.length<=k/\Hid (dQ ol s list=F++dQ ol s (list.drop k))/\Kp (λ_=>False) w wr) (λ_ i _=>list.length-(intOf i).toNat)
 case atStart=>exact⟨0,[],rfl,aG _,bT _ _ _ _,aC _,af rfl,Kp.refl _ _⟩
 case round=>
  obtain⟨k,F,rfl,hk,G,a3,O,I⟩:=hrel;have D:iW _ _ _ _ _ _ _:=ey.az hm I (λx=>x);have E:=hp.az I (λ_ _ _ _ _ x=>x);have Z:=h.az I (λ_ _ _ x=>x);have cp:=D.kb
  by_cases J:k<list.length
  ·have aO:(k:Int)<(list.length:Int):=by omega
   obtain⟨a,X⟩:∃s,list[k]? =some s:=⟨_,ar J⟩
   obtain⟨g,aI,hg,a0⟩:=Z.at_ X;simp only[aK,bS]at hg;obtain⟨rfl,rfl⟩:=hg
   have ed:list.drop k=a::list.drop (k+1):=by
    rw[eZ J];congr 1;exact(aJ.1 X).2
   obtain⟨a1,a2⟩:=aa a (aM X)
   obtain⟨j,rfl⟩:∃j:Nat,a=j:=⟨a.toNat,by omega⟩
   have hj:j<ol.cW.length:=by omega
   obtain⟨t,ht⟩:∃s,ol.cW[j]? =some s:=⟨_,ar hj⟩
   obtain⟨tg,UJ,ac,base,c3,cc,_⟩:=E.tr ht;have b6:=cc 6 (by omega);simp only[gh,gq]at b6
   have step:dQ ol s (list.drop k)=if t.target==45 then dQ ol s (list.drop (k+1))else kA ol.ai s (Ch.place ol.ai t.target)::dQ ol s (list.drop (k+1)):=by
    rw[ed];simp only[dQ,db,ht]
   cases q1:t.target==45 with
   |true=>
    have U:=af (show dQ ol s list=F++dQ ol s (list.drop (k+1))by rw[O.out,step,q1];rfl);clear O step ed X ht cc Z D E h
    go_upto_region 5 with(fail)
    go_quiet (fail)
    go_wp2
    go_roundw
    case rel=>exact⟨k+1,F,by go_num,by omega,G,by omega,U,I.drewN _⟩
    case measure=>simp[intOf];omega
   |false=>?_
   have U:=af (show dQ ol s list=(F++[kA ol.ai s (Ch.place ol.ai t.target)])++dQ ol s (list.drop (k+1))by rw[O.out,step,q1];simp);have Y:=af (ae D (ae E G));clear O step ed X ht cc Z D E h G
   go_upto_region 5 with(fail)
   go_quiet (fail)
   have KD:=I.drewN nq
   obtain⟨D,E,G⟩:iW (wr.drewN nq) mb ob po s qv ov/\Pl (wr.drewN nq) ob po ol/\(wr.drewN nq).ownsRow w.heap.size 3 1 u5 F.length (bI F):=⟨Y.out.1,Y.out.2.1.az ((Kp.refl (λ_=>False) _).drewN nq) (λ_ _ _ _ _ x=>x),Y.out.2.2⟩
   generalize wr.drewN nq=w5 at*;have aS:=D.kb;have E1:=af (qf ob po w5 ol.ai t.target E.str (by omega));have E2:=af (λn:Nat=>NM ob po (w5.drewN n) ol.ai mb 1 [.pointer (some ⟨ob,po,none⟩)] [qv,ov] 149 s (Ch.place ol.ai t.target) (by exact E.str) (by omega) (by exact D) hw rfl);clear Y D E cp c3 b6 a0 I
   go_wp2_with fail
   refine b9 E1 ?_;rintro x w6 ⟨rfl,rfl⟩
   go_upto_region 8 with(fail)
   go_quiet ((go_at_call 160;exact iZ (eE E2 _)))
   have KE:=KD.drewN nq;have UK:(w6.drewN nq).ownsRow w.heap.size 3 1 u5 F.length (bI F):=G;generalize w6.drewN nq=w7 at*
   go_wp2_with (at_builtin;refine hJ _ rfl (.tmp 47) (.tmp 49) 38 rfl w.heap.size 3 i0 (.int .i64 0) 1 8 underlying38 hi aj am ap rfl (by decide) _ _ _ rfl (UK.alloc _) ⟨w7.heap.size,0,none⟩ 1 1 [.int .i64 (kA ol.ai s (Ch.place ol.ai t.target))] rfl rfl ?c1 ?c2 ?c3 ?c4 ?c5 ?_)
   case c1=>exact fy _ _ _
   case c2=>intro u hu;simp at hu;subst hu;rfl
   case c3=>unfold maxLen;omega
   case c4=>omega
   case c5=>have:=KE.size;simp;omega
   intro v4 w8 o4 g4 _;have K4:=Kp.grown (KE.alloc _) g4 (λi hi J=>by have:=(UK.lt i hi).1;omega);clear g4 KE UK;go_wp2
   go_roundw
   case rel=>exact⟨k+1,_,by go_num,by omega,by simpa[bI]using o4,by simp;omega,U,K4⟩
   case measure=>simp[intOf];omega
  have a4:¬(k:Int)<(list.length:Int):=by omega
  have U:=af (O.out.trans (show _=F by rw[c_ (by omega)];simp[dQ]));clear O Z E D;go_wp2;go_ret;rw[U.out];exact⟨_,rfl,G,I⟩
end
namespace Ch
def take(ss:List St)(a p t:ByteArray)(x y z:Int):Bool×Sd:=
 if(vd ss a).2 then
  if(tD ss p).2 then
   if wY t&&mT x&&mT y&&mT z then(true,⟨(vd ss a).1,(tD ss p).1,t,x,y,z⟩)else(false,wh)
  else(false,wh)
 else(false,wh)
end Ch
theorem UL:(J0:Array Value).all (λx=>x.oneCell')=true:=by kernel_rfl
namespace Ch
def iH(ss:List St)(act:List Bool)(d:Int):Nat->Nat->List Bool->List Bool
 |0,_,l=>l
 |f+1,k,l=>iH ss act d f (k+1) (if has act (k:Int)&&aB ss d (k:Int)then sq l (k:Int) true else l)
def leaves(ol:Ol)(s:Sd)(t:Nat):List Bool:=match ol.cW[t]? with
 |some x=>if x.target==45 then fT else iH ol.ai s.act (rZ ol.ai x.state x.target) ol.ai.length 0 fT
 |none=>fT
theorem DC(ss:List St)(act:List Bool)(d:Int):∀(f k:Nat) (l:List Bool),(iH ss act d f k l).length=l.length:=by
 intro f
 induction f with
 |zero=>intro k l;rfl
 |succ f D=>grind[iH,od]
theorem ow(ol:Ol)(s:Sd)(t:Nat):(leaves ol s t).length=16:=by
 unfold leaves
 split
 ·split
  ·rfl
  rw[DC];rfl
 rfl
def gH(ol:Ol)(s:Sd)(t:Nat):List Int->List Int->Option (List Int)
 | [],kept=>some (kept++[(t:Int)])
 |x::l,kept=>if meets (leaves ol s t) (leaves ol s x.toNat)then(if within ol t x.toNat then gH ol s t l kept else none)else gH ol s t l (kept++[x])
def lD(ol:Ol)(s:Sd)(list:List Int)(t:Nat):List Int:=match gH ol s t list []with|some l=>l|none=>list
def eV(ol:Ol)(s:Sd):List Int->List Int->List Int
 | [],acc=>acc
 |x::l,acc=>eV ol s l (lD ol s acc x.toNat)
def choose(ol:Ol)(s:Sd)(trg:Int):List Int:=eV ol s (find ol s trg) []
theorem KN{ol:Ol}{s:Sd}{t:Nat}(E:t<ol.cW.length):∀(l kept r:List Int),wZ ol l->wZ ol kept->gH ol s t l kept=some r->wZ ol r/\r.length<=kept.length+l.length+1:=by
 intro l
 induction l with
 |nil=>
  intro kept r _ hk h;simp only[gH,bq]at h;subst h;refine⟨?_,by simp⟩;intro n D
  rcases cB.1 D with D|D
  ·exact hk n D
  simp_all
 |cons x l F=>?_
 grind[kept,wZ,gH]
theorem ys{ol:Ol}{s:Sd}{t:Nat}(F:t<ol.cW.length){l:List Int}(D:wZ ol l):wZ ol (lD ol s l t)/\(lD ol s l t).length<=l.length+1:=by
 unfold lD
 split
 ·rename_i r h
  have:=KN F l [] r D (by intro n E;simp at E) h;simp_all
 simp_all
theorem GS{ol:Ol}{s:Sd}:∀(l acc:List Int),wZ ol l->wZ ol acc->wZ ol (eV ol s l acc)/\(eV ol s l acc).length<=acc.length+l.length:=by
 intro l
 induction l with
 |nil=>grind[eV]
 |cons x l F=>?_
 intro acc D h;have J:=D x (by simp);simp only[eV];have E:=ys (s:=s) (t:=x.toNat) (by omega) h;obtain⟨G,I⟩:=F (lD ol s acc x.toNat) (λn hn=>D n (by simp[hn])) E.1;grind
theorem DD{ol:Ol}{s:Sd}{trg:Int}{D:List Int}{k:Nat}(h:wZ ol D):wZ ol (fJ ol s trg D k)/\(fJ ol s trg D k).length<=D.length+1:=by
 unfold fJ
 split
 ·rename_i q
  simp only[gy,bne_iff_ne]at q;refine⟨?_,by simp⟩;intro n E
  rcases cB.1 E with E|E
  ·exact h n E
  grind[sD,de]
 simp_all
theorem DE{ol:Ol}{s:Sd}{trg:Int}:∀(f k:Nat) (D:List Int),wZ ol D->wZ ol (kR ol s trg f k D)/\(kR ol s trg f k D).length<=D.length+f:=by
 intro f
 induction f with
 |zero=>grind[kR]
 |succ f E=>?_
 grind[kR,DD]
theorem xO(ol:Ol)(s:Sd)(trg:Int):wZ ol (find ol s trg)/\(find ol s trg).length<=ol.ai.length:=by
 have:=DE (ol:=ol) (s:=s) (trg:=trg) ol.ai.length 0 [] (by intro n E;simp at E);exact⟨this.1,by have D:=this.2;simp only[jB,gw]at D;exact D⟩
theorem kS(ol:Ol)(s:Sd)(trg:Int):wZ ol (choose ol s trg)/\(choose ol s trg).length<=ol.ai.length:=by
 have h:=xO ol s trg;have:=GS (s:=s) (find ol s trg) [] h.1 (by intro n D;simp at D);grind[choose]
def rG(ol:Ol)(s:Sd):List Int->List Bool->List Bool
 | [],l=>l
 |x::r,l=>rG ol s r (join l (leaves ol s x.toNat))
def cT(ol:Ol)(s:Sd)(list:List Int):List Bool:=rG ol s list fT
theorem KO(ol:Ol)(s:Sd):∀(r:List Int) (l:List Bool),l.length=16->(rG ol s r l).length=16:=by
 intro r
 induction r with
 |nil=>intro l h;exact h
 |cons x r D=>grind[rG,vc]
theorem w_(ol:Ol)(s:Sd)(list:List Int):(cT ol s list).length=16:=KO _ _ _ _ rfl
def sE(ol:Ol)(t:Nat):List Ac:=match ol.cW[t]? with|some x=>x.bD|none=>[]
def fh(ol:Ol):List Int->Ma->Ma
 | [],m=>m
 |x::l,m=>fh ol l (dF (sE ol x.toNat) m)
def eB(ol:Ol)(D:List Bool)(goals:List Int):Nat->Nat->Ma->Ma
 |0,_,m=>m
 |f+1,k,m=>eB ol D goals f (k+1) (if jr ol.ai m.s.act D goals (k:Int)then dA ol m k else m)
def enter(ol:Ol)(m:Ma)(list:List Int):Ma:=eB ol m.s.act (dQ ol m.s list) ol.ai.length 0 m
def dC(ol:Ol)(m:Ma)(list:List Int):Ma:=
 enter ol (fh ol list (cM ol (cT ol m.s list) ol.ai.length {m with s:=rem ol.ai m.s (cT ol m.s list)})) list
def busy(ol:Ol)(m:Ma):Bool:=decide (0<(choose ol m.s 46).length)||decide (0<m.q.length)
def round(ol:Ol)(m:Ma):Ma:=
 if(choose ol m.s 46).length==0 then match m.q with
  | []=>dC ol m (choose ol m.s 46)
  |a::q=>dC ol {m with q:=q} (choose ol m.s a)
 else dC ol m (choose ol m.s 46)
def rounds(ol:Ol):Nat->Ma->Ma
 |0,m=>m
 |n+1,m=>if busy ol m then rounds ol n (round ol m)else m
def finish(ol:Ol)(n:Nat)(m:Ma):Sd×ByteArray×Int:=
 if busy ol (rounds ol n m)then(wh,ByteArray.empty,9)else((rounds ol n m).s,strOfNums (rounds ol n m).out,0)
def df(ol:Ol):Sd×ByteArray×Int:=finish ol 30 (enter ol ⟨cS ol.ai,[],[]⟩ [])
def b_(ol:Ol)(s:Sd)(ev:Int):Sd×ByteArray×Int:=finish ol 29 (dC ol ⟨s,[],[]⟩ (choose ol s ev))
theorem GU(ol:Ol)(s:Sd):∀(l:List Int),(dQ ol s l).length<=l.length:=by
 intro l
 induction l with
 |nil=>simp[dQ]
 |cons x l D=>?_
 grind[dQ]
theorem Ma.Sz.le{m:Ma}{a b:Nat}(h:m.Sz a)(D:a<=b):m.Sz b:=⟨bA h.1 D,bA h.2 D⟩
theorem wo(ol:Ol)(left:List Bool):∀(k:Nat) {m:Ma},m.s.Ok->(cM ol left k m).s.Ok:=by
 intro k
 induction k with
 |zero=>intro m h;exact h
 |succ k D=>?_
 grind[cM,nP,vi]
theorem wu{ol:Ol}(D:ol.Ok)(left:List Bool):∀(k:Nat) {m:Ma} {n:Nat},m.Sz n->(cM ol left k m).Sz (n+115200*k):=by
 intro k
 induction k with
 |zero=>grind[cM]
 |succ k F=>?_
 intro m n h;simp only[cM]
 have E:(if has left (k:Int)then dN (d_ k 36 ol.eR m) k false else m:Ma).Sz (n+115200):=by
  split
  ·exact tG D _ _ h
  exact h.le (by omega)
 grind
theorem N9(ol:Ol):∀(l:List Int) {m:Ma},m.s.Ok->(fh ol l m).s.Ok:=by
 intro l
 induction l with
 |nil=>intro m h;exact h
 |cons x l D=>grind[fh,ql]
theorem GV{ol:Ol}(D:ol.Ok)(t:Nat):(sE ol t).length<=240:=by
 unfold sE
 split
 ·rename_i x E;exact(D.j_ x (aM E)).1
 simp
theorem N_{ol:Ol}(D:ol.Ok):∀(l:List Int) {m:Ma} {n:Nat},m.Sz n->(fh ol l m).Sz (n+480*l.length):=by
 intro l
 induction l with
 |nil=>grind[fh]
 |cons x l E=>?_
 intro m n h;simp only[fh];exact(E (tF h (GV D _))).le (by simp;omega)
theorem KP(ol:Ol)(D:List Bool)(goals:List Int):∀(f k:Nat) {m:Ma},m.s.Ok->(eB ol D goals f k m).s.Ok:=by
 intro f
 induction f with
 |zero=>intro k m h;exact h
 |succ f E=>?_
 grind[eB,uy]
theorem KU{ol:Ol}(E:ol.Ok)(D:List Bool)(goals:List Int):∀(f k:Nat) {m:Ma} {n:Nat},m.Sz n->(eB ol D goals f k m).Sz (n+115202*f):=by
 intro f
 induction f with
 |zero=>grind[eB]
 |succ f G=>?_
 intro k m n h;simp only[eB]
 have F:(if jr ol.ai m.s.act D goals (k:Int)then dA ol m k else m:Ma).Sz (n+115202):=by
  split
  ·grind[uz]
  exact h.le (by omega)
 grind
theorem sG{ol:Ol}{m:Ma}(h:m.s.Ok)(list:List Int):(enter ol m list).s.Ok:=KP _ _ _ _ _ h
theorem vl{ol:Ol}(D:ol.Ok){m:Ma}{n:Nat}(h:m.Sz n)(list:List Int):(enter ol m list).Sz (n+1900000):=by
 have:=KU D m.s.act (dQ ol m.s list) ol.ai.length 0 h;have E:=D.ai;exact this.le (by omega)
theorem Cm{ss:List St}{s:Sd}(left:List Bool)(h:s.Ok):(rem ss s left).Ok:=⟨UF left h.1,h.2⟩
theorem sJ{ol:Ol}{m:Ma}(h:m.s.Ok)(list:List Int):(dC ol m list).s.Ok:=
 sG (N9 _ _ (wo _ _ _ (Cm _ h))) _
theorem qq{ol:Ol}(D:ol.Ok){m:Ma}{n:Nat}(h:m.Sz n){list:List Int}(J:list.length<=16):(dC ol m list).Sz (n+3900000):=by
 have F:=D.ai;have E:({m with s:=rem ol.ai m.s (cT ol m.s list)}:Ma).Sz n:=h;have G:=wu D (cT ol m.s list) ol.ai.length E;have I:=N_ D list G;exact(vl D I list).le (by omega)
theorem DF{ol:Ol}{m:Ma}(h:m.s.Ok):(round ol m).s.Ok:=by
 grind[round,sJ]
theorem kT{ol:Ol}(D:ol.Ok)(s:Sd)(trg:Int):(choose ol s trg).length<=16:=by
 have:=(kS ol s trg).2;have:=D.ai;omega
theorem DG{ol:Ol}(D:ol.Ok){m:Ma}{n:Nat}(h:m.Sz n):(round ol m).Sz (n+3900000):=by
 unfold round
 split
 ·split
  ·grind[qq,kT]
  rename_i a q e;refine qq D (m:={m with q:=q}) ?_ (kT D _ _);refine⟨?_,h.2⟩;have:=h.1;grind
 grind[qq,kT]
theorem q_(ss:List St):(cS ss).Ok:=⟨om ss,by simp[cS],by simp[cS]⟩
end Ch
def kB(l:List Bool):Array Value:=(l.map Value.bool).toArray
section
variable {w:World} {b:Nat} {l:List Bool}
theorem kP.row(h:kP w b [] l [] 91):w.heap[b]? =some (.cells (kB l) 91 (0,0)):=by unfold kP at h;simpa[kB]using h
theorem kP.ofRow(h:w.heap[b]? =some (.cells (kB l) 91 (0,0))):kP w b [] l [] 91:=by unfold kP;simpa[kB]using h
theorem kU(h:l.length=16):(kB l).size=16:=by simp[kB,h]
theorem lR(h:l.length=16):(prog.info? 91).map (·.size)=some (kB l).size:=by rw[kU h];exact Jc
theorem ox(l:List Bool):(kB l).all (·.oneCell')=true:=by
 apply gN.2;intro x D;simp only[kB,lZ,ib]at D;obtain⟨a,_,rfl⟩:=D;rfl
end
theorem Kp.qs{w w':World}(k:Kp (λ_=>False) w w'){p:Addr}{v:Value}(h:w.cell? p=some v):w'.cell? p=some v:=by
 have D:=nE w _ h;have e:=k.block p.block D (λx=>x);unfold World.cell? at*;simp_all
section
variable (w:World) (mb ob po:Nat) (s:Sd) (qv ov:Value) (ol:Ol)
theorem uA(t:Nat)(ht:t<ol.cW.length)(hm:iW w mb ob po s qv ov)(hw:s.Wf)(hp:Pl w ob po ol)(am:ol.Ok):
 Calls prog 176 #[.pointer (some ⟨mb,0,none⟩),.int .i64 t] w λx w'=>x= .returned (.agg (kB (Ch.leaves ol s t)))/\Kp (λ_=>False) w w':=by
 obtain⟨ds,ad,kJ⟩:=GB;have An:=am.ai
 have bc:(t:Int)<(ol.cW.length:Int):=by omega
 obtain⟨a,ha⟩:∃s,ol.cW[t]? =some s:=⟨_,ar ht⟩
 have K2:Kp (λ_=>False) w ((w.alloc (.cells fY 91)).alloc (.cells fY 91)):=((Kp.refl _ _).alloc _).alloc _
 have ap:((w.alloc (.cells fY 91)).alloc (.cells fY 91)).heap[w.heap.size]? =some (.cells fY 91):=by
  rw[cQ _ _ _ (by simp)];exact an _ _
 have aS:((w.alloc (.cells fY 91)).alloc (.cells fY 91)).heap[w.heap.size+1]? =_:=nV w _ _
 have a8:((w.alloc (.cells fY 91)).alloc (.cells fY 91)).heap.size=w.heap.size+2:=by simp
 have bb:=hm.lt;have cp:=iW.kb (ey.az hm K2 (λx=>x));have aj:iW _ _ _ _ _ _ _:=ey.az hm K2 (λx=>x);have I:=hp.az K2 (λ_ _ _ _ _ x=>x);obtain⟨g,cap,ac,base,c3,cc,a1⟩:=I.tr ha;have c0:=cc 0 (by omega);have c1:=cc 1 (by omega);have c2:=cc 2 (by omega);have c4:=cc 4 (by omega);have c5:=cc 5 (by omega);have c6:=cc 6 (by omega);have Y0:=cc 3 (by omega);simp only[gh,gq,l5]at c0 c1 c2 Y0 c4 c5 c6;clear cc a1 hp hm
 cases Y:a.target==45 with
 |true=>
  rw[show Ch.leaves ol s t=fT by simp[Ch.leaves,ha,Y]];clear aj I
  go_enter func176,ntmps176
  go_wp2_with fail
  generalize ((w.alloc (.cells fY 91)).alloc (.cells fY 91))=w2 at*;refine uu ap ad kJ Jc ?_;exact⟨rfl,K2⟩
 |false=>?_
 rw[show Ch.leaves ol s t=iH ol.ai s.act (rZ ol.ai a.state a.target) ol.ai.length 0 fT by simp[Ch.leaves,ha,Y]];have U:=af (GH ob po ((w.alloc (.cells fY 91)).alloc (.cells fY 91)).drew ol.ai a.state a.qP a.guard.var a.guard.sign a.guard.digit a.target ac am.up (by exact I.str) (by omega))
 go_enter func176,ntmps176
 go_upto_region 4 with(fail)
 generalize a6:((w.alloc (.cells fY 91)).alloc (.cells fY 91))=w2 at*;clear a6
 go_cut [6]from 21 to 35 (λd wx=>d= .int .i64 (rZ ol.ai a.state a.target)/\Kp (λ_=>False) w2 wx)
 case first=>
  go_region_held3 (λw'=>w'.cell? ⟨mb,0,none⟩=some (.pointer (some ⟨ob,po,none⟩))/\w'.cell? ⟨ob,po+3,none⟩=some (.slice (some ⟨g,0,none⟩) ol.cW.length cap)/\w'.cell? ⟨g,t*7,none⟩=some (.int .i64 a.state)/\w'.cell? ⟨g,t*7+1,none⟩=some (.int .u8 a.qP)/\w'.cell? ⟨g,t*7+2,none⟩=some (.int .u8 a.guard.var)/\w'.cell? ⟨g,t*7+3,none⟩=some (.int .u8 a.guard.sign)/\w'.cell? ⟨g,t*7+4,none⟩=some (.int .i64 a.guard.digit)/\w'.cell? ⟨g,t*7+5,none⟩=some ac/\w'.cell? ⟨g,t*7+6,none⟩=some (.int .u8 a.target)) (first|exact⟨cp,c3,c0,c1,c2,Y0,c4,c5,c6⟩|exact HS.out) ((go_at_call 222;refine b9 U ?_;rintro x w3 ⟨rfl,D⟩;have H:=af D;have HS:=af (ae (D.qs cp) (ae (D.qs c3) (ae (D.qs c0) (ae (D.qs c1) (ae (D.qs c2) (ae (D.qs Y0) (ae (D.qs c4) (ae (D.qs c5) (D.qs c6)))))))));clear U D))
  all_goals (go_wp2;go_meet;exact⟨rfl,((Kp.refl (λ_=>False) w2).drewN 1).trans H.out⟩)
 case rest=>
  obtain⟨rfl,KC⟩:=hcut;have a2:iW _ _ _ _ _ _ _:=ey.az aj KC (λx=>x);have a4:=I.az KC (λ_ _ _ _ _ x=>x);have a5:=KC.at_ ap (λx=>x);have a0:kP _ _ _ fT _ _:=kP.ofRow (KC.at_ aS (λx=>x));have KW:=K2.trans KC
  have a3:∀aa T,wc.heap[w.heap.size+1]? =some (.cells aa T (0,0))->T=91:=by
   intro aa T h;rw[kP.row a0]at h;simp at h;exact h.2.symm
  clear U aj I ap aS K2 KC cp c0 c1 c2 c3 c4 c5 c6 Y0 Y ha;generalize We:rZ ol.ai a.state a.target=dm at*;have HD:=af We;clear We
  go_wp2_with fail
  go_loopw [7] (λi wr=>∃(k:Nat) (l:List Bool),i= .int .i64 k/\k<=ol.ai.length/\l.length=16/\Hid (iH ol.ai s.act dm ol.ai.length 0 fT=iH ol.ai s.act dm (ol.ai.length-k) k l)/\kP wr (w.heap.size+1) [] l [] 91/\Kp (λk=>k=w.heap.size+1) wc wr) (λi _=>ol.ai.length-(intOf i).toNat)
  case atStart=>exact⟨0,fT,rfl,aG _,rfl,af rfl,a0,Kp.refl _ _⟩
  case round=>
   obtain⟨k,l,rfl,hk,E,Z,h1,X⟩:=hrel;have F:iW _ _ _ _ _ _ _:=ey.az a2 X (λx=>by omega);have G:=a4.az X (λi aa T hi hT x=>by subst x;have:=a3 _ _ hi;subst this;revert hT;unfold QY oT;decide);have J:=X.at_ a5 (λx=>by omega);have KX:=KW.trans' X (λi hi x=>by omega);have cp:=F.kb;obtain⟨ao,cap,c2⟩:=G.str.len
   by_cases ba:k<ol.ai.length
   ·have a7:(k:Int)<(ol.ai.length:Int):=by omega
    have ef:ol.ai.length-k=(ol.ai.length-(k+1))+1:=by omega
    have U:=af (lW wr mb 1 [.pointer (some ⟨ob,po,none⟩)] s.act (cX s++[qv,ov]) 149 k F hw.1 rfl);have E2:=af (mj ob po wr ol.ai dm k am.up G.str (by omega));have E3:=af (Ja wr (w.heap.size+1) 0 [] l [] 91 k h1 E rfl);have HK:=af (ae X h1)
    cases Y:Ch.has s.act (k:Int)with
    |false=>
     rw[Y]at U;have HF:=af (Z.out.trans (show _=iH ol.ai s.act dm (ol.ai.length-(k+1)) (k+1) l by rw[ef];simp only[iH];rw[Y];rfl));clear Z ef X KX h1 F G J
     go_wp2_with fail
     refine b9 U ?_;rintro x w1 ⟨rfl,rfl⟩;go_wp2
     go_roundw
     case rel=>exact⟨k+1,l,by go_num,by omega,E,HF,HK.out.2,HK.out.1⟩
     case measure=>simp[intOf];omega
    |true=>?_
    rw[Y]at U
    cases q2:aB ol.ai dm (k:Int)with
    |false=>
     rw[q2]at E2;have HF:=af (Z.out.trans (show _=iH ol.ai s.act dm (ol.ai.length-(k+1)) (k+1) l by rw[ef];simp only[iH];rw[Y,q2];rfl));clear Z ef X KX h1 F G J
     go_wp2_with fail
     refine b9 U ?_;rintro x w1 ⟨rfl,rfl⟩
     go_wp2_with fail
     refine b9 E2 ?_;rintro x w1 ⟨rfl,rfl⟩;go_wp2
     go_roundw
     case rel=>exact⟨k+1,l,by go_num,by omega,E,HF,HK.out.2,HK.out.1⟩
     case measure=>simp[intOf];omega
    |true=>?_
    rw[q2]at E2;have HF:=af (Z.out.trans (show _=iH ol.ai s.act dm (ol.ai.length-(k+1)) (k+1) (sq l (k:Int) true)by rw[ef];simp only[iH];rw[Y,q2];rfl));clear Z ef X KX h1 F G J
    go_wp2_with fail
    refine b9 U ?_;rintro x w1 ⟨rfl,rfl⟩
    go_wp2_with fail
    refine b9 E2 ?_;rintro x w1 ⟨rfl,rfl⟩
    go_wp2_with fail
    refine b9 E3 ?_;rintro x w3 ⟨rfl,h3,D⟩;have K4:=HK.out.1.trans D;clear U E2 E3 HK D;go_wp2
    go_roundw
    case rel=>exact⟨k+1,_,by go_num,by omega,by rw[od];exact E,HF,h3,K4⟩
    case measure=>simp[intOf];omega
   have a9:¬(k:Int)<(ol.ai.length:Int):=by omega
   have HF:=af (Z.out.trans (show _=l by rw[show ol.ai.length-k=0 by omega];rfl));have aO:=h1.row;have O:=lR E;have iG:=kU E;have aI:=ox l;have KZ:Kp _ _ (wr.setRow w.heap.size (kB l)):=KX.setRow (λx=>by omega) _;clear Z h1 X KX F G;generalize hL:kB l=L at*;have HL:=af hL;clear hL
   go_wp2_with (first|refine jO aO ad kJ O ?_|refine cj L J O iG.symm aI ?_)
   refine uu (ax _ _ _ _ _ _ J) ad kJ O ?_;rw[HD.out,HF.out,HL.out];exact⟨rfl,KZ⟩
