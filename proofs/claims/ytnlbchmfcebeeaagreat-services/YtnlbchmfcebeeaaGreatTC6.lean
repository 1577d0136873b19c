import Derived.Test.YtnlbchmfcebeeaaGreatTC0
set_option maxHeartbeats 12800000
set_option maxRecDepth 100000
namespace Go.Proofs.YtnlbchmfcebeeaaGreat
open Go.Proofs.Tryz Ch
open Go.RowKit
open Value(int slice bool pointer agg tuple)
open IntKind(i64)
open Obj(cells)
open Ending(returned)
open Operand(tmp)
open Or(inl inr)
namespace Ch
def cP(m:Ma)(a:Ac):Bool×Ma:=
 if a.sign==33 then(true,{m with q:=m.q++[a.aK]})
 else if a.sign==64 then((send m.s a.aK a.digit).1,{m with s:=(send m.s a.aK a.digit).2})
 else if a.sign==126 then(true,{m with s:=qU m.s a.aK})
 else if a.sign==35 then(true,{m with out:=m.out++[a.aK]})
 else(mj (hY m.s a),{m with s:=tu m.s a.aK (hY m.s a)})
theorem NL t c:∀ f k acc,acc.length<=k->k<=t.size->(vt t c f k acc).length<=t.size:=by
 intro f;induction f with
 |zero=>grind[vt]
 |succ f D=>?_
 grind[vt]
theorem Hx{s}(h:s.Ok)c:(qU s c).Ok:=by
 have⟨h0,h1,h2⟩:=h;refine⟨h0,h1,?_⟩;show(strOfNums (vt s.tm c s.tm.size 0 [])).size<=17;rw[dC];grind[NL]
theorem VQ{s}(h:s.Ok)ev d:(send s ev d).2.Ok:=by
 unfold send;split
 ·omega
 have⟨h0,h1,h2⟩:=h;refine⟨h0,h1,?_⟩;show(s.tm++strOfNums [ev,48+d]).size<=17;rw[jN,dC];grind
theorem BF{m}(h:m.s.Ok)a:(cP m a).2.s.Ok:=by
 grind[cP,VQ,Hx,VP]
theorem FQ m a:(cP m a).2.q.length<=m.q.length+1/\(cP m a).2.out.length<=m.out.length+1:=by
 grind[cP]
def eD:List Ac->Ma->Ma
 | [],m=>m
 |a::l,m=>if(cP m a).1 then eD l (cP m a).2 else {(cP m a).2 with q:=(cP m a).2.q++[122]}
theorem tz:∀ l {m},m.s.Ok->(eD l m).s.Ok:=by
 intro l;induction l with
 |nil=>intro m h;exact h
 |cons a l D=>?_
 grind[eD,BF]
theorem Hy:∀ l m,(eD l m).q.length<=m.q.length+2*l.length/\(eD l m).out.length<=m.out.length+2*l.length:=by
 intro l;induction l with
 |nil=>grind[eD]
 |cons a l D=>?_
 grind[FQ,eD,cP]
end Ch
theorem Mm.still{w w' B mb D E m}(h:Mm w B mb D E m)(k:Kp bA w w'):Mm w' B mb D E m:=by
 have⟨qv,ov,hm,oq,oo,ap⟩:=h;exact⟨qv,ov,fq.aB hm k (λx=>x),oq.aB k (λ_ _ x=>x),oo.aB k (λ_ _ x=>x),ap⟩
theorem Kp.km{w w':World}{B mb:Nat}(k:Kp bA w w'):Kp (km B mb w) w w':=(Kp.refl _ _).trans' k gM
theorem OZ w B mb J O m a(h:Mm w B mb J O m)(hs:m.s.Ok)(ha:a.Ok)(hB:B<=w.heap.size)(hq:m.q.length<=1000000000)(hu:m.out.length<=1000000000):
 Calls prog 182 #[pointer (some ⟨mb,0,none⟩),agg #[int .u8 a.sign,int .u8 a.aK,int i64 a.digit]] w λx w'=>x=returned (bool (cP m a).1)/\Mm w' B mb J O (cP m a).2/\Kp (km B mb w) w w':=by
 have K1:=kG w (cells #[int .u8 a.sign,int .u8 a.aK,int i64 a.digit] 255);have e1:=ak w (cells #[int .u8 a.sign,int .u8 a.aK,int i64 a.digit] 255);have M1:=h.still K1;have ab:B<=((w.alloc (cells #[int .u8 a.sign,int .u8 a.aK,int i64 a.digit] 255))).heap.size:=by have:=K1.size;omega
 have hw:=hs.1;have c0:(w.alloc (cells #[int .u8 a.sign,int .u8 a.aK,int i64 a.digit] 255)).cell? ⟨w.heap.size,0,none⟩=some (int .u8 a.sign):=dG e1 rfl;have c1:(w.alloc (cells #[int .u8 a.sign,int .u8 a.aK,int i64 a.digit] 255)).cell? ⟨w.heap.size,1,none⟩=some (int .u8 a.aK):=dG e1 rfl;have c2:(w.alloc (cells #[int .u8 a.sign,int .u8 a.aK,int i64 a.digit] 255)).cell? ⟨w.heap.size,2,none⟩=some (int i64 a.digit):=dG e1 rfl;have row:=e1;have HK:=ag (K1.km (B:=B) (mb:=mb));have HM:=ag M1;have nv:cP m a=if a.sign==33 then(true,{m with q:=m.q++[a.aK]})else if a.sign==64 then((Ch.send m.s a.aK a.digit).1,{m with s:=(Ch.send m.s a.aK a.digit).2})else if a.sign==126 then(true,{m with s:=qU m.s a.aK})else if a.sign==35 then(true,{m with out:=m.out++[a.aK]})else(mj (hY m.s a),{m with s:=tu m.s a.aK (hY m.s a)}):=rfl
 cases q1:a.sign==33 with
 |true=>
  rw[show cP m a=(true,{m with q:=m.q++[a.aK]})by rw[nv,q1];rfl];have E:=ag (wu (w.alloc (cells #[int .u8 a.sign,int .u8 a.aK,int i64 a.digit] 255)) B mb J O m a.aK HM.out hw ab hq);go_in;go_wp;refine b9 E ?_;rintro w2 ⟨M2,K2⟩;have H2:=bw M2 (Km.trans HK.out K2);exact iN H2
 |false=>?_
 cases q2:a.sign==64 with
 |true=>
  rw[show cP m a=((Ch.send m.s a.aK a.digit).1,{m with s:=(Ch.send m.s a.aK a.digit).2})by rw[nv,q1,q2];rfl];have⟨qv,ov,hm,oq,oo,ap⟩:=HM.out;have E:=ag (Sn ((w.alloc (cells #[int .u8 a.sign,int .u8 a.aK,int i64 a.digit] 255))).drew mb 1 [pointer (some ⟨J,O,none⟩)] m.s [qv,ov] 149 a.aK a.digit (by exact hm) hw rfl ha.1 ha.2);have G:=fM hm oq oo ap;go_in;go_upto_region 6 with fail;go_region_with (go_at_call 223;refine b9 E ?_;rintro Q ⟨X,R⟩;have H3:=bw X R)
  all_goals
   have⟨X,R⟩:=H3.out;have⟨hm,oq,oo,ap⟩:=G.out;have n1:=oq.ne hm aV;have n2:=oo.ne hm aV;have F:=(show Kp (λk=>k=mb) (w.alloc (cells #[int .u8 a.sign,int .u8 a.aK,int i64 a.digit] 255)) ((w.alloc (cells #[int .u8 a.sign,int .u8 a.aK,int i64 a.digit] 255))).drew from(Kp.refl _ _).drew).trans R;have Z:Mm _ _ _ _ _ {m with s:=(Ch.send m.s a.aK a.digit).2}:=⟨qv,ov,X,oq.aB F (λi hi x=>by subst x;exact n1 hi),oo.aB F (λi hi x=>by subst x;exact n2 hi),ap⟩
   have Y:=HK.out.trans' F (λi _ x=>inl x);exact OH Z Y
 |false=>?_
 cases q3:a.sign==126 with
 |true=>
  rw[show cP m a=(true,{m with s:=qU m.s a.aK})by rw[nv,q1,q2,q3];rfl];have⟨qv,ov,hm,oq,oo,ap⟩:=HM.out;have E:=ag (FO ((w.alloc (cells #[int .u8 a.sign,int .u8 a.aK,int i64 a.digit] 255))).drew mb 1 [pointer (some ⟨J,O,none⟩)] m.s [qv,ov] 149 a.aK (by exact hm) hw rfl (by have:=hs.2.2;omega));have G:=fM hm oq oo ap;go_in;go_upto_region 8 with fail;go_region_with (go_at_call 224;refine b9 E ?_;rintro Q ⟨X,R⟩;have H3:=bw X R)
  all_goals
   have⟨X,R⟩:=H3.out;have⟨hm,oq,oo,ap⟩:=G.out;have n1:=oq.ne hm aV;have n2:=oo.ne hm aV;have F:=(show Kp (λk=>k=mb) (w.alloc (cells #[int .u8 a.sign,int .u8 a.aK,int i64 a.digit] 255)) ((w.alloc (cells #[int .u8 a.sign,int .u8 a.aK,int i64 a.digit] 255))).drew from(Kp.refl _ _).drew).trans R;have Z:Mm _ _ _ _ _ {m with s:=qU m.s a.aK}:=⟨qv,ov,X,oq.aB F (λi hi x=>by subst x;exact n1 hi),oo.aB F (λi hi x=>by subst x;exact n2 hi),ap⟩
   have Y:=HK.out.trans' F (λi _ x=>inl x);exact OH Z Y
 |false=>?_
 cases q4:a.sign==35 with
 |true=>
  rw[show cP m a=(true,{m with out:=m.out++[a.aK]})by rw[nv,q1,q2,q3,q4];rfl];have⟨qv,ov,hm,oq,oo,ap⟩:=HM.out;have co:=hm.out hw;have aj:=λo=>j4.out (fq.aB hm ((Kp.refl bA _).alloc o) (λx=>x)) hw;have G:=fM hm oq oo ap;go_in;go_upto_region 10 with fail;generalize (w.alloc (cells #[int .u8 a.sign,int .u8 a.aK,int i64 a.digit] 255))=w1 at*;go_region_law (refine Dv rfl (tmp 40) (tmp 43) rfl (v:=ov) nQ (by exact G.out.2.2.1.alloc _) ⟨w1.heap.size,0,none⟩ 1 1 [int .u8 a.aK] nQ rfl aV (by exact gT _ _ _) Ki (by simp[aF];omega) il ?_;intro ga oa ca Q I g3 D;have KG:Kp (λi=>ov.ownBlock=some i) w1 Q:=Kp.grown (by exact((Kp.refl _ _).alloc _).drew) g3 (λi hi _=>hi);have U:j4 Q mb J O m.s qv ov:=fq.aB G.out.1 KG (G.out.2.2.1.ne G.out.1 aV);have x1:=U.out hw;have x2:=fq.free U 38;have H3:=fM U I KG D)
  all_goals
   have⟨U,I,KG,D⟩:=H3.out;have⟨hm,oq,oo,ap⟩:=G.out;have aa:=oq.aB KG (λi hi x=>ap i hi x);have ad:mM qv (slice (some ⟨ga,oa,none⟩) ((aF m.out).length+1) ca):=by
    intro i hi x;simp[Value.ownBlock]at x;subst x;rcases D with D|D
    ·exact ap _ hi D
    have:=(oq.lt _ hi).2;try simp at D
    omega
   have KA:Kp (km B mb w1) _ _:=(Kp.refl _ _).trans' KG (λi hi x=>inr ⟨(oo.lt i x).1,oo.block x⟩);have n1:=I.ne U aV;have n2:=aa.ne U aV;have F:Kp (λk=>k=mb) Q (Q.setCell ⟨mb,38,none⟩ (slice (some ⟨ga,oa,none⟩) ((aF m.out).length+1) ca)):=(Kp.refl _ _).setCell jF _;have Z:Mm (Q.setCell ⟨mb,38,none⟩ (slice (some ⟨ga,oa,none⟩) ((aF m.out).length+1) ca)) B mb J O {m with out:=m.out++[a.aK]}:=
    ⟨qv,_,U.YA hw _,aa.aB F (λi hi x=>by subst x;exact n2 hi),by rw[gh];exact I.aB F (λi hi x=>by subst x;exact n1 hi),ad⟩
   have Y:=Km.trans HK.out (KA.trans' F (λi _ x=>inl x));generalize Q.setCell ⟨mb,38,none⟩ (slice (some ⟨ga,oa,none⟩) ((aF m.out).length+1) ca)=w4 at Z Y⊢;exact OH Z Y
 |false=>?_
 rw[show cP m a=(mj (hY m.s a),{m with s:=tu m.s a.aK (hY m.s a)})by rw[nv,q1,q2,q3,q4];rfl];have E:=ag (Lo (w.alloc (cells #[int .u8 a.sign,int .u8 a.aK,int i64 a.digit] 255)) B mb J O m a HM.out hs ha);go_in;go_wp;refine b9 E ?_;rintro w2 ⟨M2,K2⟩;have H2:=bw M2 (Km.trans HK.out K2);exact iN H2
section
variable {w w':World} {B mb ob po:Nat} {m:Ma}
theorem Mm.cj(h:Mm w B mb ob po m):∃c,w.heap[mb]? =some (cells c 149 (0,0)):=by
 have⟨qv,ov,hm,_⟩:=h;exact⟨_,hm⟩
theorem Mm.lt(h:Mm w B mb ob po m):mb<w.heap.size:=by have⟨c,hc⟩:=h.cj;grind
theorem Mm.at_(h:Mm w B mb ob po m)(k:Kp (km B mb w) w w'){i:Nat}{c}{T}{f}(hi:w.heap[i]? =some (cells c T f))(E:T≠149)(F:T≠5):w'.heap[i]? =some (cells c T f):=by
 refine k.at_ hi λx=>?_;rcases x with rfl|⟨_,D,y⟩
 ·have⟨c',hc⟩:=h.cj;simp_all
 simp_all
theorem Mm.row(h:Mm w B mb ob po m)(k:Kp (km B mb w) w w'){base}{e}{size}{v}{n}{F}(E:w.ownsRow base e size v n F)(G:e≠149)(I:e≠5):w'.ownsRow base e size v n F:=by
 refine k.owns E λi hi x=>?_;have⟨cur,hc⟩:=bC E hi;rcases x with rfl|⟨_,D,y⟩
 ·have⟨c',hc'⟩:=h.cj;simp_all
 simp_all
theorem Mm.pl(h:Mm w B mb ob po m)(k:Kp (km B mb w) w w'){pb}{pp}{ol}(p:Pl w pb pp ol):Pl w' pb pp ol:=by
 have⟨c,hc⟩:=h.cj;exact p.km k hc
end
theorem Lq l k a(h:l[k]? =some a):(iW l)[k*3]? =some (int .u8 a.sign)/\(iW l)[k*3+1]? =some (int .u8 a.aK)/\(iW l)[k*3+2]? =some (int i64 a.digit):=by
 have:=A3 (λa:Ac=>[Value.int .u8 a.sign,int .u8 a.aK,int i64 a.digit]) 3 jF l k;exact⟨this 0 a h oQ,this 1 a h oQ,this 2 a h oQ⟩
theorem Sw w B mb U X m D av base(ho:w.ownsRow base 255 3 av D.length (iW D))(h:Mm w B mb U X m)(hs:m.s.Ok)(ha:∀a∈D,a.Ok)(hB:B<=w.heap.size)(hl:D.length<=1000)(hq:m.q.length<=995000000)(hu:m.out.length<=995000000):
 Calls prog 134 #[pointer (some ⟨mb,0,none⟩),av] w λx w'=>x=returned (tuple #[])/\Mm w' B mb U X (eD D m)/\Kp (km B mb w) w w':=by
 obtain⟨ao,ad,rfl⟩:=bp ho;go_in;go_wp;go_loopw [4] (λi wr=>∃(k:Nat) (E:Ma),i= int i64 k/\k<=D.length/\Hid (eD D m=eD (D.drop k) E)/\Mm wr B mb U X E/\E.s.Ok/\E.q.length<=m.q.length+k/\E.out.length<=m.out.length+k/\Kp (km B mb w) w wr) (λi _=>D.length-(intOf i).toNat)
 case atStart=>exact⟨0,m,rfl,aA _,ag rfl,h,hs,aC _,aC _,Kp.refl _ _⟩
 case round=>
  obtain⟨k,E,rfl,hk,HE,Q,R,am,aI,J⟩:=hrel;have F:=h.row J ho aV aV;have aa:B<=wr.heap.size:=by have:=J.size;omega
  by_cases O:k<D.length
  ·have ab:(k:Int)<(D.length:Int):=oQ;obtain⟨a,G⟩:∃s,D[k]? =some s:=⟨_,au O⟩
   have⟨g,cap',hg⟩:=jn F oQ;simp only[aH,cA]at hg;obtain⟨rfl,rfl⟩:=hg;have⟨z0,z1,z2⟩:=Lq D k a G;have a0:=(F.cellAt (k*3) oQ).trans z0;have a1:=(F.cellAt (k*3+1) oQ).trans z1;have a2:=(F.cellAt (k*3+2) oQ).trans z2;have ed:D.drop k=a::D.drop (k+1):=by
    rw[eR O];congr 1;exact(aM.1 G).2
   have Y:=ag (OZ wr B mb U X E a Q R (ha a (aP G)) aa oQ oQ);have ap:=FQ E a;have VR:=BF R a;cases q1:(cP E a).1 with
   |true=>
    rw[q1]at Y;have I:=ag (HE.trans (show _=eD (D.drop (k+1)) (cP E a).2 by rw[ed];simp only[eD];rw[q1];rfl));go_wp;refine b9 Y ?_;rintro w2 ⟨M2,K2⟩;have Z:=Km.trans J K2;go_wp2;exact⟨⟨k+1,_,eb,oQ,I,M2,VR,oQ,oQ,Z⟩,ew⟩
   |false=>?_
   rw[q1]at Y;have I:=ag (HE.trans (show _={(cP E a).2 with q:=(cP E a).2.q++[122]}by rw[ed];simp only[eD];rw[q1];rfl));go_wp;refine b9 Y ?_;rintro w2 ⟨M2,K2⟩;have Z:=Km.trans J K2;have E2:=ag (wu w2 B mb U X (cP E a).2 122 M2 VR.1 (by have:=Z.size;omega) oQ);go_wp21;refine fu E2 ?_;rintro x w4 ⟨rfl,M4,K4⟩;have K5:=Km.trans Z K4;go_wp2;refine aJ (nk rfl _ _ _) rfl ?_;rw[I];exact⟨rfl,M4,K5⟩
  have aj:¬(k:Int)<D.length:=oQ;have I:=ag (HE.trans (show _=E by rw[dA oQ];rfl));go_wp2;go_end0
  rw[I];exact⟨rfl,Q,J⟩
namespace Ch
def fa(state sign:Int):List Bl->Ma->Ma
 | [],m=>m
 |b::l,m=>fa state sign l (if(b.state==state)&&(b.sign==sign)then eD b.bM m else m)
def wBl:List Bl->Nat
 | []=>0
 |b::l=>b.bM.length+wBl l
structure Ol.Ok(ol:Ol):Prop where
 up:Up ol.ah
 ah:ol.ah.length<=16
 dF:ol.dF.length<=240
 fH:ol.fH.length<=240
 kZ:∀t∈ol.dF,t.bM.length<=240/\∀a∈t.bM,a.Ok
 uo:∀b∈ol.fH,b.bM.length<=240/\∀a∈b.bM,a.Ok
 wB:wBl ol.fH<=240
def Ma.Sz(m:Ma)(n:Nat):Prop:=m.q.length<=n/\m.out.length<=n
theorem wy{m n}(h:m.Sz n){l}(D:l.length<=240):(eD l m).Sz (n+480):=by
 grind[Hy,Ma.Sz]
theorem Sy state sign:∀ l {m} {n},m.Sz n->(∀b∈l,b.bM.length<=240)->(fa state sign l m).Sz (n+480*l.length):=by
 intro l;induction l with
 |nil=>grind[fa]
 |cons b l F=>?_
 intro m n h E;simp only[fa];have D:((if(b.state==state)&&(b.sign==sign)then eD b.bM m else m):Ma).Sz (n+480):=by
  grind[wy,Ma.Sz]
 grind[Ma.Sz]
theorem yg state sign:∀ l {m},m.s.Ok->(fa state sign l m).s.Ok:=by
 intro l;induction l with
 |nil=>intro m h;exact h
 |cons b l D=>?_
 grind[fa,tz]
end Ch
theorem uw w B mb X Y m ol state sign(hp:Pl w X Y ol)(R:ol.Ok)(h:Mm w B mb X Y m)(hs:m.s.Ok)(hB:B<=w.heap.size)(hz:m.Sz 990000000):
 Calls prog 167 #[pointer (some ⟨mb,0,none⟩),int i64 state,int .u8 sign] w λx w'=>x=returned (tuple #[])/\Mm w' B mb X Y (fa state sign ol.fH m)/\Kp (km B mb w) w w':=by
 have⟨hz1,hz2⟩:=hz;have ap:=R.fH;go_in;go_wp;go_loopw [6] (λi wr=>∃(k:Nat) (E:Ma),i= int i64 k/\k<=ol.fH.length/\Hid (fa state sign ol.fH m=fa state sign (ol.fH.drop k) E)/\Mm wr B mb X Y E/\E.s.Ok/\E.q.length<=m.q.length+480*k/\E.out.length<=m.out.length+480*k/\Kp (km B mb w) w wr) (λi _=>ol.fH.length-(intOf i).toNat)
 case atStart=>exact⟨0,m,rfl,aA _,ag rfl,h,hs,aC _,aC _,Kp.refl _ _⟩
 case round=>
  obtain⟨k,E,rfl,hk,HE,J,F,aO,aS,Z⟩:=hrel;have U:=h.pl Z hp;have am:B<=wr.heap.size:=by have:=Z.size;omega
  have⟨qv,ov,hmb,_⟩:=id J;have cp:=hmb.lK;by_cases Q:k<ol.fH.length
  ·have aj:(k:Int)<ol.fH.length:=oQ;obtain⟨D,O⟩:∃s,ol.fH[k]? =some s:=⟨_,au Q⟩
   have⟨g,cap,ac,base,c4,cc,hac⟩:=U.bl O;have a0:=cc 0 oQ;have a1:=cc 1 oQ;have a2:=cc 2 oQ;simp only[ir,iu,kS]at a0 a1 a2;have ed:ol.fH.drop k=D::ol.fH.drop (k+1):=by
    rw[eR Q];congr 1;exact(aM.1 O).2
   have ab:=R.uo D (aP O);have⟨aco,O0,eac⟩:=bp hac;subst eac;have KB:=kG wr (cells #[int i64 D.state,int .u8 D.sign,slice aco D.bM.length O0] 282);have KM:=Km.trans Z (KB.km (B:=B) (mb:=mb));have MB:=J.still KB;have G:((D.state==state)&&(D.sign==sign))=false->fa state sign ol.fH m=fa state sign (ol.fH.drop (k+1)) E:=λq=>by
    rw[HE,ed];simp only[fa];rw[q];rfl
   cases q1:D.state==state with
   |false=>
    have I:=ag (G (by rw[q1];rfl));go_wp2;exact⟨⟨k+1,E,eb,oQ,I,MB,F,oQ,oQ,KM⟩,ew⟩
   |true=>?_
   cases q2:D.sign==sign with
   |false=>
    have I:=ag (G (by rw[q2];simp));go_wp2;exact⟨⟨k+1,E,eb,oQ,I,MB,F,oQ,oQ,KM⟩,ew⟩
   |true=>?_
   have I:=ag (HE.out.trans (show _=fa state sign (ol.fH.drop (k+1)) (eD D.bM E)by rw[ed];simp only[fa];rw[q1,q2];rfl));have SC:=Hy D.bM E;have ad:=tz D.bM F;have aa:=hac.alloc (cells #[int i64 D.state,int .u8 D.sign,slice aco D.bM.length O0] 282);have E1:=ag (Sw (wr.alloc (cells #[int i64 D.state,int .u8 D.sign,slice aco D.bM.length O0] 282)) B mb X Y E D.bM _ base aa MB F ab.2 (by have:=KB.size;omega) oQ oQ oQ);have HK:=ag KM;go_wp;refine b9 E1 ?_;rintro w2 ⟨M2,K2⟩;have K3:=Km.trans HK K2;go_wp2;exact⟨⟨k+1,_,eb,oQ,I,M2,ad,oQ,oQ,K3⟩,ew⟩
  have aI:¬(k:Int)<ol.fH.length:=oQ;have I:=ag (HE.trans (show _=E by rw[dA oQ];rfl));have⟨ao,cap,c4⟩:=U.aaS;go_wp2;go_end0
  rw[I];exact⟨rfl,J,Z⟩
namespace Ch
theorem D5{t lo}(D:48<=lo){r}(E:r.2.1.Ok)(h:(pK t lo r).1=true):(pK t lo r).2.1.Ok:=by
 grind[pK,jy,Ac.Ok]
theorem VS{t p a}(G:a.digit=0)(h:(act t p a).1=true):(act t p a).2.1.Ok:=by
 have D:(kx t p a).2.1.Ok:=by unfold kx Ac.Ok;simp[G]
 have E:(lJ t p a).2.1.Ok:=by unfold lJ Ac.Ok;simp[G]
 unfold act at*;split
 ·omega
 rename_i I;rw[ax I]at h;split
 ·rename_i F;rw[aq F]at h;exact D5 oQ D h
 rename_i F;rw[ax F]at h;split
 ·rename_i J;rw[aq J]at h;exact D5 oQ E h
 simp_all
theorem O1{t cl}:∀ n p l,p<=t.size->l.length<=p->(∀a∈l,a.Ok)->(jW t cl n p l).2.1.length<=t.size/\∀a∈(jW t cl n p l).2.1,a.Ok:=by
 intro n;induction n with
 |zero=>grind[jW]
 |succ n G=>?_
 intro p l F J E;simp only[jW];split
 ·exact⟨by simp only;omega,E⟩
 split
 ·rename_i q;have I:=AV q;refine G _ _ (s7 F 0 0) il ?_;intro a D;rcases cS.1 D with D|D
  ·exact E a D
  simp at D;subst D;exact VS rfl q
 simp
theorem Hz{t cl p}(D:p<=t.size):(bM t cl p).2.1.length<=t.size/\∀a∈(bM t cl p).2.1,a.Ok:=
 O1 _ _ _ D (aA _) dy
structure Ri(t:ByteArray)(r:Rs):Prop where
 up:Up r.ah
 kZ:∀x∈r.dF,x.bM.length<=t.size/\∀a∈x.bM,a.Ok
 uo:∀x∈r.fH,x.bM.length<=t.size/\∀a∈x.bM,a.Ok
theorem Up.push{ss}(h:Up ss){s:St}(E:-1<=s.parent)(F:s.parent<ss.length):Up (ss++[s]):=by
 intro k x D;rcases j5 k ss.length with q|q
 ·rw[mx q]at D;exact h k x D
 grind
theorem Up.mark{ss}(h:Up ss)p:Up (cI p ss):=by
 unfold cI;split
 ·split
  ·rename_i k _ s hs;split
   ·intro j x D;by_cases e:k=j
    ·subst e;have E:=(aM.1 hs).1;rw[jO E]at D;simp at D;subst D;exact h k s hs
    rw[jP e]at D;exact h j x D
   omega
  omega
 omega
theorem Dx{t r}D(h:Ri t r):Ri t (transition t D r).2/\(transition t D r).2.ah=r.ah:=by
 unfold transition;split
 ·rename_i Q;have O:r.pos+1<t.size:=by
   grind[dS,pw,ez,eW]
  have G:=vm (t:=t) (p:=r.pos+1+1) ⟨0,0,0⟩ oQ;generalize guard t (r.pos+1+1) ⟨0,0,0⟩=F at*;have J:=Hz (t:=t) (cl:=62) (p:=F.2.2) G.2;generalize bM t 62 F.2.2=I at*;split
  ·split
   ·refine⟨⟨h.up,?_,h.uo⟩,rfl⟩;intro x E;rcases cS.1 E with E|E
    ·exact h.kZ x E
    simp_all
   exact⟨⟨h.up,h.kZ,h.uo⟩,rfl⟩
  exact⟨⟨h.up,h.kZ,h.uo⟩,rfl⟩
 exact⟨⟨h.up,h.kZ,h.uo⟩,rfl⟩
theorem SD{t r}D(G:r.pos<t.size)(h:Ri t r):Ri t (block t D r).2/\(block t D r).2.ah=r.ah:=by
 have F:=Hz (t:=t) (cl:=59) (p:=r.pos+1) oQ;unfold block;split
 ·refine⟨⟨h.up,h.kZ,?_⟩,rfl⟩;intro x E;rcases cS.1 E with E|E
  ·exact h.uo x E
  simp_all
 exact⟨⟨h.up,h.kZ,h.uo⟩,rfl⟩
theorem FR{t r}op parent(D: -1<=parent)(E:parent<r.ah.length)(h:Ri t r):Ri t (bB t op parent r).2/\r.ah.length<=(bB t op parent r).2.ah.length/\
 ((bB t op parent r).1=true->r.ah.length<(bB t op parent r).2.ah.length):=by
 unfold bB;split
 ·refine⟨⟨?_,h.kZ,h.uo⟩,?_,λ_=>?_⟩
  ·exact Up.mark (Up.push h.up D E) parent
  ·grind[iQ]
  grind[iQ]
 simp_all
theorem D6{t r it}(Kk:∀a c s,c≠0->Ok t s->Ri t s->(0:Int)<=a->a<(s.ah.length:Int)->Ri t (it a c s).2/\s.ah.length<=(it a c s).2.ah.length)(parent:Int)(G:r.pos<t.size)(hk:Ok t r)(h:Ri t r)(D:-1<=parent)(E:parent<r.ah.length):Ri t (bW t it parent r).2/\r.ah.length<=(bW t it parent r).2.ah.length:=by
 have⟨⟨d1,d2,d3,d4⟩,h5⟩:=hk;have F:=ny (t:=t) (r:={r with pos:=r.pos+1}) (af t r.pos) parent ⟨⟨by simp only;omega,by simp only;omega,by simp only;omega,by simp only;omega⟩,by simp only;omega⟩;have hm:=FR (t:=t) (r:={r with pos:=r.pos+1}) (af t r.pos) parent D E ⟨h.up,h.kZ,h.uo⟩;unfold bW;generalize bB t (af t r.pos) parent {r with pos:=r.pos+1}=s at*;have⟨m1,m2,m3⟩:=hm;simp only at m2 m3;split
 ·rename_i q;have I:=m3 q;split
  ·grind
  split
  ·grind
  split
  ·exact⟨⟨m1.up,m1.kZ,m1.uo⟩,m2⟩
  simp_all
 simp_all
theorem O9{t}:∀ n (D cl:Int) r,cl≠0->Ok t r->Ri t r->0<=D->D<r.ah.length->Ri t (a_ t n D cl r).2/\r.ah.length<=(a_ t n D cl r).2.ah.length:=by
 intro n;induction n with
 |zero=>intro D cl r _ _ h _ _;exact⟨h,aC _⟩
 |succ n J=>?_
 intro D cl r E hk h G I;simp only[a_];split
 ·rename_i q;have F:=kj (λa c s hc hs=>lk n a c s hc hs) D (k6 q) hk;grind[D6,a_,k6,bW]
 split
 ·rename_i q;have F:=ki D (eo aV q) hk;grind[Dx,transition]
 split
 ·grind[dS,s9,SD,block]
 exact⟨⟨h.up,h.kZ,h.uo⟩,aC _⟩
theorem SE t:Ri t (chart t).2:=by
 have E:Ri t r0:=⟨by intro k s h;simp[r0]at h,by simp[r0],by simp[r0]⟩
 unfold chart;split
 ·rename_i q;have D:0<t.size:=by
   grind[dS]
  grind[D6,a_,O9,r0,wZ]
 omega
theorem wBa:∀ l b,wBl (l++[b])=wBl l+b.bM.length:=by
 intro l;induction l with
 |nil=>grind[wBl]
 |cons a l D=>grind[wBl]
theorem jWl t cl:∀ n p l,(jW t cl n p l).2.1.length+p<=(jW t cl n p l).2.2+l.length:=by
 intro n;induction n with
 |zero=>grind[jW]
 |succ n D=>?_
 intro p l;simp only[jW];split
 ·simp only;omega
 split
 ·rename_i q;have I:=AV q;have:=D (act t p ⟨af t p,0,0⟩).2.2 (l++[(act t p ⟨af t p,0,0⟩).2.1]);simp only[List.length_append,List.length_cons,List.length_nil]at this;omega
 have:=(Yr t p ⟨af t p,0,0⟩).1;simp only[List.length_nil];omega
theorem wTr t D r:(transition t D r).2.fH=r.fH:=by
 unfold transition;split
 ·split
  ·split<;>rfl
  rfl
 rfl
theorem wNm t o p r:(bB t o p r).2.fH=r.fH:=by
 unfold bB;split<;>rfl
theorem wBk{t r}D(h:wBl r.fH<=r.pos):wBl (Ch.block t D r).2.fH<=(Ch.block t D r).2.pos:=by
 have F:=jWl t 59 (t.size+1) (r.pos+1) [];unfold Ch.block;split
 ·simp only[wBa];unfold bM;simp only[List.length_nil]at F;omega
 simp only;unfold bM;simp only[List.length_nil]at F;omega
theorem wSt{t r it}(Kk:∀a c s,c≠0->Ok t s->wBl s.fH<=s.pos->wBl (it a c s).2.fH<=(it a c s).2.pos)parent(G:r.pos<t.size)(hk:Ok t r)(h:wBl r.fH<=r.pos):wBl (bW t it parent r).2.fH<=(bW t it parent r).2.pos:=by
 have⟨⟨d1,d2,d3,d4⟩,h5⟩:=hk;have F:=ny (t:=t) (r:={r with pos:=r.pos+1}) (af t r.pos) parent ⟨⟨by simp only;omega,by simp only;omega,by simp only;omega,by simp only;omega⟩,by simp only;omega⟩;have hm:=wNm t (af t r.pos) parent {r with pos:=r.pos+1};unfold bW;generalize bB t (af t r.pos) parent {r with pos:=r.pos+1}=s at*;have⟨F1,F2⟩:=F;simp only at F2 hm;have E:wBl s.2.fH<=s.2.pos:=by rw[hm];omega
 split
 ·split
  ·exact Kk _ _ _ (by decide) F1 E
  split
  ·exact Kk _ _ _ (by decide) F1 E
  split
  ·have:=oh (af t s.2.pos==62) s.2.pos;simp only;omega
  exact E
 exact E
theorem wIt{t}:∀ n (D cl:Int) r,cl≠0->Ok t r->wBl r.fH<=r.pos->wBl (a_ t n D cl r).2.fH<=(a_ t n D cl r).2.pos:=by
 intro n;induction n with
 |zero=>intro D cl r _ _ h;exact h
 |succ n J=>?_
 intro D cl r E hk h;simp only[a_];split
 ·rename_i q;have F:=kj (λa c s hc hs=>lk n a c s hc hs) D (k6 q) hk;have I:=wSt (it:=a_ t n) (λa c s hc hs hw=>J a c s hc hs hw) D (k6 q) hk h;split
  ·exact J _ _ _ E F.1 I
  exact I
 split
 ·rename_i q;have F:=ki D (eo (by decide) q) hk;have I:wBl (transition t D r).2.fH<=(transition t D r).2.pos:=by rw[wTr];omega
  split
  ·exact J _ _ _ E F.1 I
  exact I
 split
 ·rename_i q;have hl:r.pos<t.size:=by grind[dS]
  have F:=s9 D hl hk;have I:=wBk (t:=t) D h;split
  ·exact J _ _ _ E F.1 I
  exact I
 have:=oh (af t r.pos==cl) r.pos;simp only;omega
theorem wCh t:wBl (chart t).2.fH<=(chart t).2.pos:=by
 unfold chart;split
 ·rename_i q;have D:0<t.size:=by grind[dS]
  have I:=wSt (r:=r0) (it:=a_ t (t.size+1)) (λa c s hc hs hw=>wIt _ a c s hc hs hw) (-1) D (wZ t) (Nat.le_refl _);split
  ·exact I
  exact I
 exact Nat.le_refl _
theorem zr:(⟨[],[],[]⟩:Ol).Ok:=⟨by intro k s h;simp at h,dy,dy,dy,dy,dy,aA _⟩
theorem ux t:(read t).2.2.Ok:=by
 unfold read;split
 ·exact zr
 rename_i q;split
 ·split
  ·rename_i D;have hi:=SE t;have⟨⟨d1,d2,d3,d4⟩,h5⟩:=Hm t;refine⟨hi.up,?_,?_,?_,λx hx=>⟨by have:=(hi.kZ x hx).1;omega,(hi.kZ x hx).2⟩,λx hx=>⟨by have:=(hi.uo x hx).1;omega,(hi.uo x hx).2⟩,by have:=wCh t;simp only;omega⟩
   ·grind[gy]
   ·grind
   grind
  exact zr
 exact zr
def uZ(p:Nat->Bool)(k:Nat):Bool:=(List.range k).all p
def xq(p:Nat->Bool)(k:Nat):Bool:=(List.range k).any p
theorem D7 p k:uZ p (k+1)=(uZ p k&&p k):=by grind[uZ]
theorem zu p k:xq p (k+1)=(xq p k||p k):=by grind[xq]
theorem VT{p k n}(hk:k<n)(h:p k=false):uZ p n=false:=by grind[uZ]
theorem H4{p k n}(hk:k<n)(h:p k=true):xq p n=true:=by grind[xq]
def kept(ss:List St)(D:List Bool)(parent:Int):Bool:=xq (λi=>has D (i:Int)&&bq ss i parent) ss.length
def H8(ss:List St)(l:List Bool)(st:Int)(i:Nat):Bool:=(bn ss i==4)&&(aW ss i==st)&&has l (i:Int)
def uy(ss:List St)(l:List Bool)(st:Int):Bool:=xq (H8 ss l st) ss.length
def h_(ss:List St)(l:List Bool):Nat->Int->Bool
 |0,_=>false
 |f+1,st=>if bn ss st==2 then uy ss l st else if bn ss st==3 then uZ (λi=>!bq ss i st||h_ ss l f (i:Int)) ss.length else false
def atEnd(ss:List St)(l:List Bool)(st:Int):Bool:=h_ ss l (ss.length+2) st
end Ch
section
variable (w:World) (mb ob po:Nat) (s:Sd) (qv ov:Value) (ol:Ol)
theorem SG sb so pre l D T parent(hm:j4 w mb ob po s qv ov)(hp:Pl w ob po ol)(hl:ol.ah.length<=16)(Z:lE w sb pre l D T)(Q:l.length=16)(U:pre.length=so):
 Calls prog 164 #[pointer (some ⟨mb,0,none⟩),int i64 parent,pointer (some ⟨sb,so,none⟩)] w λx w'=>x=returned (bool (Ch.kept ol.ah l parent))/\w'=w:=by
 have cp:=hm.lK;have X:=hp.str;have⟨ao,cap,c2⟩:=X.len;go_in;go_wp;go_loop [7] (λi=>∃k:Nat,i= int i64 k/\k<=ol.ah.length/\Hid (xq (λi=>Ch.has l (i:Int)&&bq ol.ah i parent) k=false)) (λi=>ol.ah.length-(intOf i).toNat)
 case atStart=>exact⟨0,rfl,aA _,ag rfl⟩
 case round=>
  obtain⟨k,rfl,hk,O⟩:=hrel;by_cases R:k<ol.ah.length
  ·have Y:(k:Int)<ol.ah.length:=oQ;have F:=ag (lu w sb so pre l D T k Z Q U);have I:=ag (k7 ob po w ol.ah k parent X oQ);cases G:Ch.has l (k:Int)with
   |false=>
    have E:=ag (show xq (λi=>Ch.has l (i:Int)&&bq ol.ah i parent) (k+1)=false by rw[zu,O,G];rfl);rw[G]at F;go_wp;refine cF F ?_;go_wp2;exact⟨⟨k+1,eb,oQ,E⟩,ew⟩
   |true=>?_
   rw[G]at F;cases J:bq ol.ah k parent with
   |false=>
    have E:=ag (show xq (λi=>Ch.has l (i:Int)&&bq ol.ah i parent) (k+1)=false by rw[zu,O,G,J];rfl);rw[J]at I;go_wp;refine cF F ?_;go_wp21;refine fu I ?_;rintro x w1 ⟨rfl,rfl⟩;go_wp2;exact⟨⟨k+1,eb,oQ,E⟩,ew⟩
   |true=>?_
   have E:=ag (show Ch.kept ol.ah l parent=true from H4 R (by rw[G,J];rfl));rw[J]at I;go_wp;refine cF F ?_;go_wp21;refine fu I ?_;rintro x w1 ⟨rfl,rfl⟩;exact iN E
  have aa:¬(k:Int)<ol.ah.length:=oQ;obtain rfl:k=ol.ah.length:=oQ;have E:=ag (show Ch.kept ol.ah l parent=false from O);exact iN E
theorem Lr st(hm:j4 w mb ob po s qv ov)(hw:s.Wf)(Y:Pl w ob po ol)(hl:ol.ah.length<=16):
 Calls prog 253 #[pointer (some ⟨mb,0,none⟩),int i64 st] w λx w'=>x=returned (bool (uy ol.ah s.act st))/\w'=w:=by
 have Z:=hm.lK;have R:=Y.str;go_in;go_wp;go_loop [5] (λi=>∃k:Nat,i= int i64 k/\k<=ol.ah.length/\Hid (xq (H8 ol.ah s.act st) k=false)) (λi=>ol.ah.length-(intOf i).toNat)
 case atStart=>exact⟨0,rfl,aA _,ag rfl⟩
 case round=>
  obtain⟨k,rfl,hk,Q⟩:=hrel;by_cases E:k<ol.ah.length
  ·have U:(k:Int)<ol.ah.length:=oQ;obtain⟨t,hs⟩:∃s,ol.ah[k]? =some s:=⟨_,au E⟩
   have⟨g,cap,c2,a0,a1,a2,a3⟩:=R.at_ hs;have G:H8 ol.ah s.act st k=((t.kind==4)&&(t.parent==st)&&Ch.has s.act (k:Int)):=by simp[H8,bn,aW,iR,hs]
   have F:=ag (lu w mb 1 [pointer (some ⟨ob,po,none⟩)] s.act (dK s++[qv,ov]) 149 k hm hw.1 rfl);have no:H8 ol.ah s.act st k=false->xq (H8 ol.ah s.act st) (k+1)=false:=λq=>by rw[zu,Q,q];rfl
   cases I:t.kind==4 with
   |false=>
    have D:=ag (no (by rw[G,I];rfl));go_wp2;exact⟨⟨k+1,eb,oQ,D⟩,ew⟩
   |true=>?_
   cases O:t.parent==st with
   |false=>
    have D:=ag (no (by rw[G,I,O];rfl));go_wp2;exact⟨⟨k+1,eb,oQ,D⟩,ew⟩
   |true=>?_
   cases J:Ch.has s.act (k:Int)with
   |false=>
    have D:=ag (no (by rw[G,I,O,J];rfl));rw[J]at F;go_wp;refine cF F ?_;go_wp2;exact⟨⟨k+1,eb,oQ,D⟩,ew⟩
   |true=>?_
   have D:=ag (show uy ol.ah s.act st=true from H4 E (by rw[G,I,O,J];rfl));rw[J]at F;go_wp;refine cF F ?_;exact iN D
  have X:¬(k:Int)<ol.ah.length:=oQ;obtain rfl:k=ol.ah.length:=oQ;have D:=ag (show uy ol.ah s.act st=false from Q);have⟨ao,cap,c2⟩:=R.len;exact iN D
theorem Ls f st(hm:j4 w mb ob po s qv ov)(Y:Pl w ob po ol)(hl:ol.ah.length<=16)(U:∀i,i<ol.ah.length->bq ol.ah i st=true->Calls prog 219 #[pointer (some ⟨mb,0,none⟩),int i64 i] w λx w'=>x=returned (bool (h_ ol.ah s.act f i))/\w'=w):
 Calls prog 254 #[pointer (some ⟨mb,0,none⟩),int i64 st] w λx w'=>x=returned (bool (uZ (λi=>!Ch.bq ol.ah i st||h_ ol.ah s.act f (i:Int)) ol.ah.length))/\w'=w:=by
 have cp:=hm.lK;have Q:=Y.str;have⟨ao,cap,c2⟩:=Q.len;go_in;go_wp;go_loop [5] (λi=>∃k:Nat,i= int i64 k/\k<=ol.ah.length/\Hid (uZ (λi=>!Ch.bq ol.ah i st||h_ ol.ah s.act f (i:Int)) k=true)) (λi=>ol.ah.length-(intOf i).toNat)
 case atStart=>exact⟨0,rfl,aA _,ag rfl⟩
 case round=>
  obtain⟨k,rfl,hk,O⟩:=hrel;by_cases G:k<ol.ah.length
  ·have R:(k:Int)<ol.ah.length:=oQ;have E:=ag (k7 ob po w ol.ah k st Q oQ);cases D:bq ol.ah k st with
   |false=>
    have F:=ag (show uZ (λi=>!Ch.bq ol.ah i st||h_ ol.ah s.act f (i:Int)) (k+1)=true by rw[D7,O,D];rfl);rw[D]at E;go_wp;refine cF E ?_;go_wp2;exact⟨⟨k+1,eb,oQ,F⟩,ew⟩
   |true=>?_
   have I:=ag (U k G D);rw[D]at E;cases J:h_ ol.ah s.act f (k:Int)with
   |true=>
    have F:=ag (show uZ (λi=>!Ch.bq ol.ah i st||h_ ol.ah s.act f (i:Int)) (k+1)=true by rw[D7,O,D,J];rfl);rw[J]at I;go_wp;refine cF E ?_;go_wp21;refine fu I ?_;rintro x Z ⟨rfl,rfl⟩;go_wp2;exact⟨⟨k+1,eb,oQ,F⟩,ew⟩
   |false=>?_
   have F:=ag (show uZ (λi=>!Ch.bq ol.ah i st||h_ ol.ah s.act f (i:Int)) ol.ah.length=false from VT G (by rw[D,J];rfl));rw[J]at I;go_wp;refine cF E ?_;go_wp21;refine fu I ?_;rintro x Z ⟨rfl,rfl⟩;exact iN F
  have X:¬(k:Int)<ol.ah.length:=oQ;obtain rfl:k=ol.ah.length:=oQ;exact iN O
theorem Lt(hm:j4 w mb ob po s qv ov)(hw:s.Wf)(D:Pl w ob po ol)(Y:Up ol.ah)(J:ol.ah.length<=16):∀(f:Nat) st,(ol.ah.length:Int)<st+f->st<=ol.ah.length->
 Calls prog 219 #[pointer (some ⟨mb,0,none⟩),int i64 st] w λx w'=>x=returned (bool (h_ ol.ah s.act f st))/\w'=w:=by
 intro f;induction f with
 |zero=>intro st U X;omega
 |succ f Q=>?_
 intro st U X;have cp:=hm.lK;have E:=ag (nB ob po w ol.ah st D.str oQ);have F:=ag (Lr w mb ob po s qv ov ol st hm hw D J);have G:=ag (Ls w mb ob po s qv ov ol f st hm D J (λi hi hc=>Q i (by
  have:st<(i:Int):=by
   obtain⟨t,O⟩:∃t,ol.ah[i]? =some t:=⟨_,au hi⟩
   have:=Y i t O;simp[bq,iR,O]at hc;omega
  omega) oQ))
 clear Q;cases I:bn ol.ah st==2 with
 |true=>
  rw[show h_ ol.ah s.act (f+1) st=uy ol.ah s.act st by simp only[h_];rw[I];rfl];clear hm D G;go_in;go_wp;refine cF E ?_;go_wp21;refine fu F ?_;rintro x Z ⟨rfl,rfl⟩;exact we
 |false=>?_
 cases R:bn ol.ah st==3 with
 |true=>
  rw[show h_ ol.ah s.act (f+1) st=uZ (λi=>!Ch.bq ol.ah i st||h_ ol.ah s.act f (i:Int)) ol.ah.length by simp only[h_];rw[I,R];rfl];clear hm D F;go_in;go_wp;refine cF E ?_;go_wp21;refine fu G ?_;rintro x Z ⟨rfl,rfl⟩;exact we
 |false=>?_
 rw[show h_ ol.ah s.act (f+1) st=false by simp only[h_];rw[I,R];rfl];clear hm D F G;go_in;go_wp;refine cF E ?_;exact we
theorem D8(st:Int)(hm:j4 w mb ob po s qv ov)(hw:s.Wf)(G:Pl w ob po ol)(E:Up ol.ah)(F:ol.ah.length<=16)(I:-1<=st)(D:st<=ol.ah.length):
 Calls prog 219 #[pointer (some ⟨mb,0,none⟩),int i64 st] w λx w'=>x=returned (bool (Ch.atEnd ol.ah s.act st))/\w'=w:=
 Lt w mb ob po s qv ov ol hm hw G E F _ st oQ D
end
namespace Ch
def iX(ss:List St)(m:Ma)(st:Int):Ma:=
 if st== -1 then m
 else if(bn ss (aW ss st)==3)&&atEnd ss m.s.act (aW ss st)then {m with q:=m.q++[hJ ss st.toNat]++[hJ ss (aW ss st).toNat]}
 else {m with q:=m.q++[hJ ss st.toNat]}
def eO(m:Ma)(i:Int)(v:Bool):Ma:={m with s:={m.s with act:=tf m.s.act i v}}
def dT(ol:Ol)(m:Ma)(i:Nat):Ma:=
 if bn ol.ah i==4 then iX ol.ah (fa i 94 ol.fH (eO m i true)) (aW ol.ah i)else fa i 94 ol.fH (eO m i true)
def dD(ol:Ol)(left:List Bool):Nat->Ma->Ma
 |0,m=>m
 |k+1,m=>dD ol left k (if has left (k:Int)then eO (fa k 36 ol.fH m) k false else m)
theorem qJ{m}(h:m.s.Ok)i v:(eO m i v).s.Ok:=by
 have⟨⟨h0,h1⟩,h2⟩:=h;exact⟨⟨by show(tf m.s.act i v).length=16;rw[nD];exact h0,h1⟩,h2⟩
theorem tA ss m st:(iX ss m st).s=m.s/\(iX ss m st).out=m.out/\(iX ss m st).q.length<=m.q.length+2:=by
 grind[iX]
theorem wA{ol:Ol}(D:ol.Ok)state sign{m}{n}(h:m.Sz n):(fa state sign ol.fH m).Sz (n+115200):=by
 have E:=Sy state sign ol.fH h (λb hb=>(D.uo b hb).1);have F:=D.fH;grind[Ma.Sz]
theorem xr{ol m}(h:m.s.Ok)i:(dT ol m i).s.Ok:=by
 grind[dT,tA,yg,qJ]
theorem xt{ol}(D:ol.Ok){m}{n}(h:m.Sz n)i:(dT ol m i).Sz (n+115202):=by
 have E:=wA D i 94 (m:=eO m i true) (n:=n) h;unfold dT;grind[tA,fa,eO,aW,Ma.Sz]
theorem Hy1:∀ l m,(eD l m).out.length<=m.out.length+l.length:=by
 intro l;induction l with
 |nil=>grind[eD]
 |cons a l D=>?_
 grind[FQ,eD]
theorem wFa st sg:∀ l m,(fa st sg l m).out.length<=m.out.length+wBl l:=by
 intro l;induction l with
 |nil=>grind[fa]
 |cons b l D=>grind[fa,wBl,Hy1]
theorem wDd{ol:Ol}(h:ol.Ok)left:∀ k m,(dD ol left k m).out.length<=m.out.length+240*k:=by
 intro k;induction k with
 |zero=>grind[dD]
 |succ k D=>?_
 intro m;simp only[dD];have E:=wFa k 36 ol.fH m;have:=h.wB;split
 ·have:=D (eO (fa k 36 ol.fH m) k false);have e:(eO (fa k 36 ol.fH m) k false).out=(fa k 36 ol.fH m).out:=rfl;rw[e]at this;omega
 have:=D m;omega
theorem wDt{ol:Ol}(h:ol.Ok)m i:(dT ol m i).out.length<=m.out.length+240:=by
 have:=h.wB;have E:=wFa i 94 ol.fH (eO m i true);have e:(eO m i true).out=m.out:=rfl;rw[e]at E;unfold dT;grind[tA]
theorem VU{ss i}(h:(bn ss i==3)=true):∃(k:Nat) (s:St),i=k/\ss[k]? =some s/\k<ss.length:=by
 grind[bn,uX,lq]
end Ch
theorem Mm.put{w w' B mb E F s s' qv D q out}(hm:j4 w mb E F s qv D)(I:dW w B qv (aF q))(G:dW w B D (aF out))(J:mM qv D)(k:Kp (λk=>k=mb) w w')(O:j4 w' mb E F s' qv D):Mm w' B mb E F ⟨s',q,out⟩/\Kp (km B mb w) w w':=by
 have Q:=I.ne hm aV;have R:=G.ne hm aV;exact⟨⟨qv,D,O,I.aB k (λi hi x=>by subst x;exact Q hi),G.aB k (λi hi x=>by subst x;exact R hi),J⟩,(Kp.refl _ _).trans' k (λi _ x=>inl x)⟩
theorem Mm.lK{w B mb D E m}(h:Mm w B mb D E m):w.cell? ⟨mb,0,none⟩=some (pointer (some ⟨D,E,none⟩)):=by
 have⟨qv,ov,hm,_⟩:=h;exact hm.lK
theorem H_ w B mb F G ol m(st:Int)(X:Pl w F G ol)(E:ol.Ok)(h:Mm w B mb F G m)(hs:m.s.Ok)(hB:B<=w.heap.size)(hz:m.Sz 950000000)(h1:-1<=st)(h2:st<ol.ah.length):
 Calls prog 168 #[pointer (some ⟨mb,0,none⟩),int i64 st] w λx w'=>x=returned (tuple #[])/\Mm w' B mb F G (iX ol.ah m st)/\Kp (km B mb w) w w':=by
 cases q1:st== -1 with
 |true=>
  rw[show iX ol.ah m st=m by unfold iX;rw[q1];rfl];go_in;go_wp2;refine aJ (nk rfl _ _ _) rfl ?_;exact⟨rfl,h,Kp.refl _ _⟩
 |false=>?_
 have ao:st≠ -1:=cX q1;obtain⟨k,rfl⟩:∃k:Nat,st=k:=⟨st.toNat,oQ⟩
 have hk:k<ol.ah.length:=oQ;obtain⟨t,ht⟩:∃s,ol.ah[k]? =some s:=⟨_,au hk⟩
 have ad:(k:Int)<ol.ah.length:=oQ;have cp:=h.lK;have⟨g,cap,c2,a0,a1,a2,a3⟩:=X.str.at_ ht;have am:=hz.1;have wT:=E.ah;have U:hJ ol.ah (k:Int).toNat=t.name:=by simp[hJ,ht]
 have Z:=ag (wu w B mb F G m t.name h hs.1 hB oQ);have aa:=iE E.up (k:Int);have aj:=jA E.up (i:=(k:Int)) oQ;cases q2:bn ol.ah (aW ol.ah k)==3 with
 |false=>
  rw[show iX ol.ah m k={m with q:=m.q++[t.name]}by unfold iX;rw[q1,q2,U];rfl];have I:=bw h X;clear h X;go_in;go_wp2_with fail;refine fu Z ?_;rintro x O ⟨rfl,J,Q⟩;have D:=I.1.pl Q I.2;have R:=J.lK;have E2:=ag (iS F G O ol.ah k D.str oQ);have E3:=ag (nB F G O ol.ah (aW ol.ah k) D.str oQ);clear Z I a0 a1 a2 a3 c2 cp D;go_wp2_with fail;refine fu E2 ?_;rintro x Y ⟨rfl,rfl⟩;go_wp2_with fail;refine fu E3 ?_;rintro x Y ⟨rfl,rfl⟩;go_wp2;go_end0
  exact⟨rfl,J,Q⟩
 |true=>?_
 have⟨kp,tp,ep,htp,hkp⟩:=VU q2;have ab:(kp:Int)<ol.ah.length:=oQ;cases q3:Ch.atEnd ol.ah m.s.act (aW ol.ah k)with
 |false=>
  rw[show iX ol.ah m k={m with q:=m.q++[t.name]}by unfold iX;rw[q1,q2,q3,U];rfl];have I:=bw h X;clear h X ep;go_in;go_wp2_with fail;refine fu Z ?_;rintro x O ⟨rfl,J,Q⟩;have D:=I.1.pl Q I.2;have R:=J.lK;have E2:=ag (iS F G O ol.ah k D.str oQ);have E3:=ag (nB F G O ol.ah (aW ol.ah k) D.str oQ);have⟨qv,ov,hm1,_⟩:=id J;have E4:=ag (D8 O mb F G m.s qv ov ol (aW ol.ah k) hm1 hs.1 D E.up E.ah aa oQ);rw[q3]at E4;clear Z I a0 a1 a2 a3 c2 cp D hm1;go_wp2_with fail;refine fu E2 ?_;rintro x Y ⟨rfl,rfl⟩;go_wp2_with fail;refine fu E3 ?_;rintro x Y ⟨rfl,rfl⟩;go_wp2_with fail;refine fu E4 ?_;rintro x Y ⟨rfl,rfl⟩;go_wp2;go_end0
  exact⟨rfl,J,Q⟩
 |true=>?_
 rw[show iX ol.ah m k={m with q:=m.q++[t.name]++[tp.name]}by unfold iX;rw[q1,q2,q3,U,ep];simp[hJ,htp]];have I:=bw h X;have EP:=ag ep;clear h X ep;go_in;go_wp2_with fail;refine fu Z ?_;rintro x O ⟨rfl,J,Q⟩;have D:=I.1.pl Q I.2;have R:=J.lK;have E2:=ag (iS F G O ol.ah k D.str oQ);have E3:=ag (nB F G O ol.ah (aW ol.ah k) D.str oQ);have⟨qv,ov,hm1,_⟩:=id J;have E4:=ag (D8 O mb F G m.s qv ov ol (aW ol.ah k) hm1 hs.1 D E.up E.ah aa oQ);rw[q3]at E4;rw[EP]at E2 E3 E4 q2;clear EP;have⟨g',cap',c2',b0,b1,b2,b3⟩:=D.str.at_ htp;have E5:=ag (wu O B mb F G {m with q:=m.q++[t.name]} tp.name J hs.1 (by have:=Q.size;omega) il);clear Z I a0 a1 a2 a3 c2 cp D hm1;go_wp2_with fail;refine fu E2 ?_;rintro x Y ⟨rfl,rfl⟩;go_wp2_with fail;refine fu E3 ?_;rintro x Y ⟨rfl,rfl⟩;go_wp2_with fail;refine fu E4 ?_;rintro x Y ⟨rfl,rfl⟩;go_wp2_with fail;refine fu E5 ?_;rintro x w5 ⟨rfl,M5,K5⟩;have K6:=Km.trans Q K5;clear E5 J Q K5 b0 b1 b2 b3 c2' R;go_wp2;go_end0
 exact⟨rfl,M5,K6⟩
theorem BG w B mb Q R ol m k(J:Pl w Q R ol)(I:ol.Ok)(h:Mm w B mb Q R m)(hs:m.s.Ok)(hB:B<=w.heap.size)(hz:m.Sz 900000000)(hk:k<ol.ah.length):
 Calls prog 118 #[pointer (some ⟨mb,0,none⟩),int i64 k] w λx w'=>x=returned (tuple #[])/\Mm w' B mb Q R (dT ol m k)/\Kp (km B mb w) w w':=by
 obtain⟨t,ht⟩:∃s,ol.ah[k]? =some s:=⟨_,au hk⟩
 have aI:(k:Int)<ol.ah.length:=oQ;have ab:bn ol.ah k=t.kind:=by simp[bn,iR,ht]
 have R_:aW ol.ah k=t.parent:=by simp[aW,iR,ht]
 have ao:=I.up k t ht;have⟨qv,ov,hm,oq,oo,ap⟩:=id h;have E1:=ag (FH w mb 1 [pointer (some ⟨Q,R,none⟩)] m.s.act (dK m.s++[qv,ov]) 149 k hm hs.1.1 rfl);have HH:=Hi h J hm oq oo ap;have aj:=wA I k 94 (m:=eO m k true) (n:=900000000) hz;have G:=qJ hs (k:Int) true;have ad:=yg (k:Int) 94 ol.fH G;clear h J hm oq oo ap;cases q1:t.kind==4 with
 |false=>
  rw[show dT ol m k=fa k 94 ol.fH (eO m k true)by unfold dT;rw[ab,q1];rfl];go_in;go_wp;refine b9 E1 ?_;rintro w1 ⟨h1,Z⟩;have⟨h,J,hm,oq,oo,ap⟩:=HH;have⟨M1,VV⟩:=Mm.put (s':=(eO m k true).s) hm oq oo ap Z (by exact h1);have D:=h.pl VV J;have X:=ag (uw w1 B mb Q R (eO m k true) ol k 94 D I M1 G (by have:=VV.size;omega) ⟨by have:=hz.1;show m.q.length<=_;omega,by have:=hz.2;show m.out.length<=_;omega⟩);have Y:=ag M1;clear h J hm oq oo ap HH E1 h1 Z M1;go_wp21;refine fu X ?_;rintro x w2 ⟨rfl,U,O⟩;have E:=Y.pl O D;have aa:=U.lK;have⟨g,cap,c2,a0,a1,a2,a3⟩:=E.str.at_ ht;have F:=Km.trans VV O;clear X Y O VV E D;go_wp2;go_end0
  exact⟨rfl,U,F⟩
 |true=>?_
 rw[show dT ol m k=iX ol.ah (fa k 94 ol.fH (eO m k true)) t.parent by unfold dT;rw[ab,q1,R_];rfl];go_in;go_wp;refine b9 E1 ?_;rintro w1 ⟨h1,Z⟩;have⟨h,J,hm,oq,oo,ap⟩:=HH;have⟨M1,VV⟩:=Mm.put (s':=(eO m k true).s) hm oq oo ap Z (by exact h1);have D:=h.pl VV J;have X:=ag (uw w1 B mb Q R (eO m k true) ol k 94 D I M1 G (by have:=VV.size;omega) ⟨by have:=hz.1;show m.q.length<=_;omega,by have:=hz.2;show m.out.length<=_;omega⟩);have Y:=ag M1;clear h J hm oq oo ap HH E1 h1 Z M1;go_wp21;refine fu X ?_;rintro x w2 ⟨rfl,U,O⟩;have E:=Y.pl O D;have aa:=U.lK;have⟨g,cap,c2,a0,a1,a2,a3⟩:=E.str.at_ ht;have F:=Km.trans VV O;have E3:=ag (H_ w2 B mb Q R ol (fa k 94 ol.fH (eO m k true)) t.parent E I U ad (by have:=F.size;omega) ⟨by have:=aj.1;omega,by have:=aj.2;omega⟩ ao.1 oQ);clear X Y O VV E D U;go_wp21;refine fu E3 ?_;rintro x w3 ⟨rfl,M3,K3⟩;have am:=Km.trans F K3;clear E3 K3 F a0 a1 a2 a3 c2 aa;go_wp2;go_end0
 exact⟨rfl,M3,am⟩
theorem O_ w B mb U X ol m lb l(hL:lE w lb [] l [] 91)(ad:l.length=16)(hp:Pl w U X ol)(J:ol.Ok)(h:Mm w B mb U X m)(hs:m.s.Ok)(hB:B<=w.heap.size)(hz:m.Sz 900000000):
 Calls prog 133 #[pointer (some ⟨mb,0,none⟩),pointer (some ⟨lb,0,none⟩)] w λx w'=>x=returned (tuple #[])/\Mm w' B mb U X (dD ol l ol.ah.length m)/\Kp (km B mb w) w w':=by
 have cp:=h.lK;have⟨ao,cap,c2⟩:=hp.str.len;have wT:=J.ah;have aO:=hz.1;have aS:=hz.2;go_in;go_wp;go_loopw [4] (λi wr=>∃(k:Nat) (D:Ma),i= int i64 ((k:Int)-1)/\k<=ol.ah.length/\Hid (dD ol l ol.ah.length m=dD ol l k D)/\Mm wr B mb U X D/\D.s.Ok/\D.Sz (900000000+115200*(ol.ah.length-k))/\Kp (km B mb w) w wr) (λi _=>(intOf i+1).toNat)
 case atStart=>exact⟨ol.ah.length,m,eb,aC _,ag rfl,h,hs,⟨oQ,oQ⟩,Kp.refl _ _⟩
 case round=>
  obtain⟨k,D,rfl,hk,Q,G,O,E,R⟩:=hrel;have I:=h.pl R hp;have F:lE _ _ _ _ _ _:=h.at_ R hL aV aV;have aj:B<=wr.heap.size:=by have:=R.size;omega
  cases k with
  |zero=>
   have Z:=ag (Q.trans (show _=D from rfl));clear Q I F cp c2;go_wp2;go_end0
   rw[Z];exact⟨rfl,G,R⟩
  |succ k=>?_
  have e1:((k+1:Nat):Int)-1=k:=oQ;rw[e1];have Y:=ag (lu wr lb 0 [] l [] 91 k F ad rfl);have aI:(0:Int)<=k:=oQ;cases q1:Ch.has l (k:Int)with
  |false=>
   rw[q1]at Y;have Z:=ag (Q.trans (show _=dD ol l k D by simp only[dD];rw[q1];rfl));clear Q I F cp c2 e1;go_wp;refine cF Y ?_;go_wp2;exact⟨⟨k,D,eb,oQ,Z,G,O,⟨by have:=E.1;omega,by have:=E.2;omega⟩,R⟩,by simp[intOf]⟩
  |true=>?_
  rw[q1]at Y;have Z:=ag (Q.trans (show _=dD ol l k (eO (fa k 36 ol.fH D) k false)by simp only[dD];rw[q1];rfl));have am:D.Sz 990000000:=⟨by have:=E.1;omega,by have:=E.2;omega⟩
  have E2:=ag (uw wr B mb U X D ol k 36 I J G O aj am);have ab:=wA J (k:Int) 36 E;have fW:=yg (k:Int) 36 ol.fH O;have aa:=qJ fW (k:Int) false;clear Q I F cp c2 e1 G;go_wp;refine cF Y ?_;go_wp21;refine fu E2 ?_;rintro x w2 ⟨rfl,M2,K2⟩;have K3:=Km.trans R K2;have⟨qv,ov,hm2,oq,oo,ap⟩:=id M2;have E3:=ag (Sb w2 mb 1 [pointer (some ⟨U,X,none⟩)] (fa k 36 ol.fH D).s.act (dK (fa k 36 ol.fH D).s++[qv,ov]) 149 k hm2 fW.1.1 rfl);have HH:=fM hm2 oq oo ap;clear Y E2 K2 M2 hm2 oq oo ap;go_wp21;refine fu E3 ?_;rintro x w4 ⟨rfl,h4,K4⟩;have⟨hm2,oq,oo,ap⟩:=HH;have⟨M4,KM4⟩:=Mm.put (s':=(eO (fa k 36 ol.fH D) k false).s) hm2 oq oo ap K4 (by exact h4);have K5:=Km.trans K3 KM4;clear E3 HH hm2 oq oo ap h4 K4 KM4 K3;go_wp2;exact⟨⟨k,_,eb,oQ,Z,M4,aa,⟨by have:=ab.1;show(fa k 36 ol.fH D).q.length<=_;omega,by have:=ab.2;show(fa k 36 ol.fH D).out.length<=_;omega⟩,K5⟩,by simp[intOf]⟩
namespace Ch
def holds(s:Sd)(g:Gd):Bool:=
 if g.sign==60 then decide (var s g.var<g.digit)else if g.sign==61 then var s g.var==g.digit else if g.sign==62 then decide (g.digit<var s g.var)else true
def vy(ss:List St)(act:List Bool)(k:Nat):Bool:=has act (k:Int)&&(bn ss k==1||bn ss k==4)
end Ch
theorem Pa w mb Q U s qv R g(hm:j4 w mb Q U s qv R)(hw:s.Wf):
 Calls prog 255 #[pointer (some ⟨mb,0,none⟩),agg #[int .u8 g.var,int .u8 g.sign,int i64 g.digit]] w λx w'=>x=returned (bool (Ch.holds s g))/\Kp bA w w':=by
 have O:=kG w (cells #[int .u8 g.var,int .u8 g.sign,int i64 g.digit] 206);have e1:=ak w (cells #[int .u8 g.var,int .u8 g.sign,int i64 g.digit] 206);have G:j4 _ _ _ _ _ _ _:=fq.aB hm O (λx=>x);have c0:(w.alloc (cells #[int .u8 g.var,int .u8 g.sign,int i64 g.digit] 206)).cell? ⟨w.heap.size,0,none⟩=some (int .u8 g.var):=dG e1 rfl;have c1:(w.alloc (cells #[int .u8 g.var,int .u8 g.sign,int i64 g.digit] 206)).cell? ⟨w.heap.size,1,none⟩=some (int .u8 g.sign):=dG e1 rfl;have c2:(w.alloc (cells #[int .u8 g.var,int .u8 g.sign,int i64 g.digit] 206)).cell? ⟨w.heap.size,2,none⟩=some (int i64 g.digit):=dG e1 rfl;have D:=ag (uq ((w.alloc (cells #[int .u8 g.var,int .u8 g.sign,int i64 g.digit] 206))).drew mb 1 [pointer (some ⟨Q,U,none⟩)] s [qv,R] 149 g.var (by exact G) hw rfl);have E:=ag O.drew;have nv:Ch.holds s g=if g.sign==60 then decide (Ch.var s g.var<g.digit)else if g.sign==61 then Ch.var s g.var==g.digit else if g.sign==62 then decide (g.digit<Ch.var s g.var)else true:=rfl
 cases F:g.sign==60 with
 |true=>
  rw[show Ch.holds s g=decide (Ch.var s g.var<g.digit)by rw[nv,F];rfl];go_in;go_upto_region 1 with fail;generalize (w.alloc (cells #[int .u8 g.var,int .u8 g.sign,int i64 g.digit] 206))=J at*;go_region_with (go_at_call 257;refine cF D ?_)
  all_goals
   exact iN E
 |false=>?_
 cases I:g.sign==61 with
 |true=>
  rw[show Ch.holds s g=(Ch.var s g.var==g.digit)by rw[nv,F,I];rfl];go_in;go_upto_region 1 with fail;generalize (w.alloc (cells #[int .u8 g.var,int .u8 g.sign,int i64 g.digit] 206))=J at*;go_region_with (go_at_call 257;refine cF D ?_)
  all_goals
   exact iN E
 |false=>?_
 cases X:g.sign==62 with
 |true=>
  rw[show Ch.holds s g=decide (g.digit<Ch.var s g.var)by rw[nv,F,I,X];rfl];go_in;go_upto_region 1 with fail;generalize (w.alloc (cells #[int .u8 g.var,int .u8 g.sign,int i64 g.digit] 206))=J at*;go_region_with (go_at_call 257;refine cF D ?_)
  all_goals
   exact iN E
 |false=>?_
 rw[show Ch.holds s g=true by rw[nv,F,I,X];rfl];go_in;go_upto_region 1 with fail;generalize (w.alloc (cells #[int .u8 g.var,int .u8 g.sign,int i64 g.digit] 206))=J at*;go_region_with (go_at_call 257;refine cF D ?_)
 all_goals
  exact iN E
theorem Lu w mb F G s qv J ol k(hm:j4 w mb F G s qv J)(hw:s.Wf)(R:Pl w F G ol)(hk:k<ol.ah.length):
 Calls prog 173 #[pointer (some ⟨mb,0,none⟩),int i64 k] w λx w'=>x=returned (bool (vy ol.ah s.act k))/\w'=w:=by
 obtain⟨t,I⟩:∃s,ol.ah[k]? =some s:=⟨_,au hk⟩
 have Q:(k:Int)<ol.ah.length:=oQ;have U:=hm.lK;have⟨g,cap,c2,a0,a1,a2,a3⟩:=R.str.at_ I;have E:bn ol.ah k=t.kind:=by simp[bn,iR,I]
 have D:=ag (lu w mb 1 [pointer (some ⟨F,G,none⟩)] s.act (dK s++[qv,J]) 149 k hm hw.1 rfl);have nv:vy ol.ah s.act k=(Ch.has s.act (k:Int)&&(t.kind==1||t.kind==4)):=by unfold vy;rw[E]
 rw[nv];cases O:Ch.has s.act (k:Int)with
 |false=>
  rw[O]at D;go_in;go_wp;refine cF D ?_;exact we
 |true=>?_
 rw[O]at D;cases X:t.kind==1 with
 |true=>
  go_in;go_wp;refine cF D ?_;exact we
 |false=>?_
 go_in;go_wp;refine cF D ?_;exact we
def bO(l:List Int):List Value:=l.map (Value.int i64)
def yh(w:World)(v:Value)(l:List Int):Prop:=∃base,w.ownsRow base 3 1 v l.length (bO l)
theorem yh.aB{S w w' v l}(h:yh w v l)(k:Kp S w w')(hs:∀i D,w.heap[i]? =some (cells D 3 (0,0))->¬S i):yh w' v l:=by
 have⟨base,ho⟩:=h;exact⟨base,k.owns ho (λi hi=>by have⟨D,hg⟩:=bC ho hi;exact hs i D hg)⟩
theorem yh.len{w v l}(h:yh w v l):∃E D,v= slice E l.length D:=by
 have⟨base,ho⟩:=h;exact bp ho
theorem yh.at_{w v l}(h:yh w v l){k}{n}(E:l[k]? =some n):∃g D,v= slice (some ⟨g,0,none⟩) l.length D/\w.cell? ⟨g,k,none⟩=some (int i64 n):=by
 have⟨base,ho⟩:=h;have hk:=(aM.1 E).1;obtain⟨g,D,rfl⟩:=jn ho oQ;refine⟨g,D,rfl,(ho.cellAt k oQ).trans ?_⟩;grind[bO]
theorem yi w v l n(h:yh w v l)(U:l.length<=100000):
 Calls prog 175 #[v,int i64 n] w λx w'=>x=returned (bool (l.any (· ==n)))/\w'=w:=by
 obtain⟨R,O,rfl⟩:=h.len;go_in;go_wp;go_loop [5] (λi=>∃k:Nat,i= int i64 k/\k<=l.length/\Hid (l.any (· ==n)=(l.drop k).any (· ==n))) (λi=>l.length-(intOf i).toNat)
 case atStart=>exact⟨0,rfl,aA _,ag rfl⟩
 case round=>
  obtain⟨k,rfl,hk,F⟩:=hrel;by_cases E:k<l.length
  ·have J:(k:Int)<l.length:=oQ;obtain⟨a,I⟩:∃s,l[k]? =some s:=⟨_,au E⟩
   have⟨g,cap',hg,a0⟩:=h.at_ I;simp only[aH,cA]at hg;obtain⟨rfl,rfl⟩:=hg;have G:l.drop k=a::l.drop (k+1):=by
    rw[eR E];congr 1;exact(aM.1 I).2
   cases q:a==n with
   |true=>
    have D:=ag (F.trans (show _=true by rw[G,List.any_cons,q];rfl));exact iN D
   |false=>?_
   have D:=ag (F.trans (show _=(l.drop (k+1)).any (· ==n)by rw[G,List.any_cons,q];rfl));go_wp2;exact⟨⟨k+1,eb,oQ,D⟩,ew⟩
  have D:=ag (F.trans (show _=false by rw[dA oQ];rfl));have Q:¬(k:Int)<l.length:=oQ;exact iN D
namespace Ch
def xa(s:Sd)(st trg:Int)(t:Tr):Bool:=(t.state==st)&&(t.uh==trg)&&holds s t.guard
def iF(s:Sd)(st trg:Int):List Tr->Nat->Int
 | [],_=>-2
 |t::l,k=>if xa s st trg t then k else iF s st trg l (k+1)
def lL(ol:Ol)(s:Sd)(st trg:Int):Int:=iF s st trg ol.dF 0
def dU(ol:Ol)(s:Sd)(trg:Int):Nat->Int->Int
 |0,_=>-2
 |f+1,i=>if i== -1 then-2 else if lL ol s i trg != -2 then lL ol s i trg else dU ol s trg f (aW ol.ah i)
def dX(ol:Ol)(s:Sd)(D trg:Int):Int:=dU ol s trg (D+2).toNat D
theorem Lv s st trg:∀ l k,iF s st trg l k= -2\/∃j:Nat,iF s st trg l k=j/\k<=j/\j<k+l.length:=by
 intro l;induction l with
 |nil=>intro k;exact inl rfl
 |cons t l D=>?_
 grind[iF]
theorem Pb ol s st trg:lL ol s st trg= -2\/∃j:Nat,lL ol s st trg=j/\j<ol.dF.length:=by
 rcases Lv s st trg ol.dF 0 with h|⟨j,e,_,D⟩
 ·exact inl h
 exact inr ⟨j,e,oQ⟩
theorem vz ol s trg:∀ f i,dU ol s trg f i= -2\/∃j:Nat,dU ol s trg f i=j/\j<ol.dF.length:=by
 intro f;induction f with
 |zero=>intro i;exact inl rfl
 |succ f D=>?_
 grind[dU,Pb]
end Ch
theorem Lw w mb ob po s qv ov ol st trg(hm:j4 w mb ob po s qv ov)(hw:s.Wf)(hp:Pl w ob po ol)(Z:ol.Ok):
 Calls prog 221 #[pointer (some ⟨mb,0,none⟩),int i64 st,int .u8 trg] w λx w'=>x=returned (int i64 (lL ol s st trg))/\Kp bA w w':=by
 have hl:=Z.dF;go_in;go_wp;go_loopw [7] (λi wr=>∃k:Nat,i= int i64 k/\k<=ol.dF.length/\Hid (lL ol s st trg=iF s st trg (ol.dF.drop k) k)/\Kp bA w wr) (λi _=>ol.dF.length-(intOf i).toNat)
 case atStart=>exact⟨0,rfl,aA _,ag rfl,Kp.refl _ _⟩
 case round=>
  obtain⟨k,rfl,hk,U,Q⟩:=hrel;have G:j4 _ _ _ _ _ _ _:=fq.aB hm Q (λx=>x);have I:=hp.aB Q (λ_ _ _ _ _ x=>x);have cp:=G.lK;by_cases F:k<ol.dF.length
  ·have aa:(k:Int)<ol.dF.length:=oQ;obtain⟨t,ht⟩:∃s,ol.dF[k]? =some s:=⟨_,au F⟩
   have⟨g,cap,ac,base,c3,cc,hac⟩:=I.tr ht;obtain⟨E,O0,rfl⟩:=bp hac;have a0:=cc 0 oQ;have a1:=cc 1 oQ;have a2:=cc 2 oQ;have a3:=cc 3 oQ;have a4:=cc 4 oQ;have a5:=cc 5 oQ;have a6:=cc 6 oQ;simp only[ir,iu,kS]at a0 a1 a2 a3 a4 a5 a6;have ed:ol.dF.drop k=t::ol.dF.drop (k+1):=by
    rw[eR F];congr 1;exact(aM.1 ht).2
   have KB:=kG wr (cells #[int i64 t.state,int .u8 t.uh,int .u8 t.guard.var,int .u8 t.guard.sign,int i64 t.guard.digit,slice E t.bM.length O0,int .u8 t.target] 209);have O:=Q.trans KB;have J:=ag (Pa (wr.alloc (cells #[int i64 t.state,int .u8 t.uh,int .u8 t.guard.var,int .u8 t.guard.sign,int i64 t.guard.digit,slice E t.bM.length O0,int .u8 t.target] 209)) mb ob po s qv ov t.guard (fq.aB G KB (λx=>x)) hw);have no:xa s st trg t=false->lL ol s st trg=iF s st trg (ol.dF.drop (k+1)) (k+1):=λq=>by
    rw[U,ed];simp only[iF];rw[q];rfl
   cases q1:t.state==st with
   |false=>
    have D:=ag (no (by unfold xa;rw[q1];rfl));go_wp2;exact⟨⟨k+1,eb,oQ,D,O⟩,ew⟩
   |true=>?_
   cases q2:t.uh==trg with
   |false=>
    have D:=ag (no (by unfold xa;rw[q2];simp));go_wp2;exact⟨⟨k+1,eb,oQ,D,O⟩,ew⟩
   |true=>?_
   cases R:Ch.holds s t.guard with
   |false=>
    rw[R]at J;have D:=ag (no (by unfold xa;rw[R];simp));go_wp;refine b9 J ?_;intro w2 X;have Y:=O.trans X;go_wp2;exact⟨⟨k+1,eb,oQ,D,Y⟩,ew⟩
   |true=>?_
   rw[R]at J;have D:=ag (show lL ol s st trg=(k:Int)by rw[U,ed];simp only[iF];rw[aq (by unfold xa;rw[q1,q2,R];rfl)]);go_wp;refine b9 J ?_;intro w2 X;have Y:=O.trans X;go_wp2;go_ret;exact⟨by rw[D];rfl,Y⟩
  have ab:¬(k:Int)<ol.dF.length:=oQ;have D:=ag (U.trans (show _=(-2:Int)by rw[dA oQ];rfl));have⟨ao,cap,c3⟩:=I.aaR;go_wp2;go_ret;exact⟨by rw[D];rfl,Q⟩
theorem FU w mb R U s qv ov ol D trg(Z:-1<=D)(hm:j4 w mb R U s qv ov)(hw:s.Wf)(hp:Pl w R U ol)(E:ol.Ok):
 Calls prog 174 #[pointer (some ⟨mb,0,none⟩),int i64 D,int .u8 trg] w λx w'=>x=returned (int i64 (dX ol s D trg))/\Kp bA w w':=by
 have hl:=E.ah;go_in;go_wp;go_loopw [7] (λv wr=>∃(i:Int) (f:Nat),v= int i64 i/\ -1<=i/\i+2<=(f:Int)/\Hid (dX ol s D trg=dU ol s trg f i)/\Kp bA w wr) (λv _=>(intOf v+1).toNat)
 case atStart=>exact⟨D,(D+2).toNat,rfl,Z,oQ,ag rfl,Kp.refl _ _⟩
 case round=>
  obtain⟨i,f,rfl,hi,hf,X,I⟩:=hrel;have J:j4 _ _ _ _ _ _ _:=fq.aB hm I (λx=>x);have O:=hp.aB I (λ_ _ _ _ _ x=>x);obtain⟨f,rfl⟩:∃g,f=g+1:=⟨f-1,oQ⟩
  cases q1:i != -1 with
  |false=>
   have F:=ag (X.trans (show _=(-2:Int)by simp only[dU];rw[aq (cX q1)]));go_wp2;go_ret;exact⟨by rw[F];rfl,I⟩
  |true=>?_
  have aa:i≠ -1:=cX q1;have p1:=jA E.up (i:=i) oQ;have p2:=iE E.up i;have E1:=ag (Lw wr mb R U s qv ov ol i trg J hw O E);have Q:¬(i== -1)=true:=cX aa;have HM:=bw J O;cases q2:lL ol s i trg != -2 with
  |true=>
   have F:=ag (X.trans (show _=lL ol s i trg by simp only[dU];rw[ax Q,aq q2]));go_wp;refine b9 E1 ?_;intro w2 G;have Y:=I.trans G;go_wp2;go_ret;exact⟨by rw[F];rfl,Y⟩
  |false=>?_
  have F:=ag (X.trans (show _=dU ol s trg f (aW ol.ah i)by simp only[dU];rw[ax Q,ax (by rw[q2];exact Bool.false_ne_true)]));go_wp;refine b9 E1 ?_;intro w2 G;have Y:=I.trans G;have ab:=HM.2.aB G (λ_ _ _ _ _ x=>x);have cp:=j4.lK (fq.aB HM.1 G (λx=>x));have E2:=ag (iS R U w2 ol.ah i ab.str oQ);go_wp21;refine fu E2 ?_;rintro x w3 ⟨rfl,rfl⟩;go_wp2;exact⟨⟨_,f,rfl,p2,oQ,F,Y⟩,ew⟩
theorem nI:(prog.info? 3).map (λi=>(i.zero,i.size,i.bytes))=some (some (int i64 0),1,8):=bZ
namespace Ch
def iG(ol:Ol)(k:Nat):Int:=match ol.dF[k]? with|some t=>t.state|none=>0
def within(ol:Ol)(t other:Nat):Bool:=aG ol.ah (iG ol other) (iG ol t)
def ib(ol:Ol)(s:Sd)(trg:Int)(D:List Int)(k:Nat):List Int:=
 if vy ol.ah s.act k&&(dX ol s k trg != -2)&& !(D.any (· ==dX ol s k trg))then D++[dX ol s k trg]else D
def mN(ol:Ol)(s:Sd)(trg:Int):Nat->Nat->List Int->List Int
 |0,_,D=>D
 |f+1,k,D=>mN ol s trg f (k+1) (ib ol s trg D k)
def find(ol:Ol)(s:Sd)(trg:Int):List Int:=mN ol s trg ol.ah.length 0 []
end Ch
theorem SH w mb ob po s qv ov ol trg(hm:j4 w mb ob po s qv ov)(hw:s.Wf)(hp:Pl w ob po ol)(aa:ol.Ok):
 Calls prog 129 #[pointer (some ⟨mb,0,none⟩),int .u8 trg] w λx w'=>∃v,x=returned v/\w'.ownsRow w.heap.size 3 1 v (Ch.find ol s trg).length (bO (Ch.find ol s trg))/\Kp bA w w':=by
 have hl:=aa.ah;have⟨i0,hi,hz0,hz1,hz2⟩:=cr nI;go_in;go_wp;go_loopw [5,6] (λfv i wr=>∃(k:Nat) (D:List Int),i= int i64 k/\k<=ol.ah.length/\wr.ownsRow w.heap.size 3 1 fv D.length (bO D)/\D.length<=k/\Hid (Ch.find ol s trg=mN ol s trg (ol.ah.length-k) k D)/\Kp bA w wr) (λ_ i _=>ol.ah.length-(intOf i).toNat)
 case atStart=>exact⟨0,[],rfl,aA _,cd _ _ _ _,aC _,ag rfl,Kp.refl _ _⟩
 case round=>
  obtain⟨k,D,rfl,hk,E,ad,HE,J⟩:=hrel;have O:j4 _ _ _ _ _ _ _:=fq.aB hm J (λx=>x);have Q:=hp.aB J (λ_ _ _ _ _ x=>x);have cp:=O.lK;have⟨ao,cap,c2⟩:=Q.str.len;by_cases Z:k<ol.ah.length
  ·have ab:(k:Int)<ol.ah.length:=oQ;have ef:ol.ah.length-k=(ol.ah.length-(k+1))+1:=oQ;have R:=ag (Lu wr mb ob po s qv ov ol k O hw Q Z);have E2:=ag (FU wr mb ob po s qv ov ol k trg oQ O hw Q aa);have no:ib ol s trg D k=D->Ch.find ol s trg=mN ol s trg (ol.ah.length-(k+1)) (k+1) D:=λq=>by
    rw[HE,ef];simp only[mN];rw[q]
   cases X:vy ol.ah s.act k with
   |false=>
    rw[X]at R;have F:=ag (no (by unfold ib;rw[X];rfl));go_wp;refine cF R ?_;go_wp2;exact⟨⟨k+1,D,eb,oQ,E,oQ,F,J⟩,ew⟩
   |true=>?_
   rw[X]at R;cases q2:dX ol s k trg != -2 with
   |false=>
    have F:=ag (no (by unfold ib;rw[X,q2];rfl));go_wp;refine cF R ?_;go_wp21;refine fu E2 ?_;rintro x w2 ⟨rfl,I⟩;have U:=J.trans I;have G:=I.owns E (λ_ _ x=>x);go_wp2;go_roundw
    case rel=>exact⟨k+1,D,eb,oQ,G,oQ,F,U⟩
    case measure=>exact ew
   |true=>?_
   cases q3:D.any (· ==dX ol s k trg)with
   |true=>
    have F:=ag (no (by unfold ib;rw[X,q2,q3];rfl));go_wp21;refine fu R ?_;rintro x w1 ⟨rfl,rfl⟩;go_wp2_with fail;refine fu E2 ?_;rintro x w2 ⟨rfl,I⟩;have U:=J.trans I;have G:=I.owns E (λ_ _ x=>x);have Y:=ag (yi w2 u5 D (dX ol s k trg) ⟨_,G⟩ oQ);rw[q3]at Y;go_wp21;refine fu Y ?_;rintro x w3 ⟨rfl,rfl⟩;go_wp2;go_roundw
    case rel=>exact⟨k+1,D,eb,oQ,G,oQ,F,U⟩
    case measure=>exact ew
   |false=>?_
   have F:=ag (show Ch.find ol s trg=mN ol s trg (ol.ah.length-(k+1)) (k+1) (D++[dX ol s k trg])by
    rw[HE,ef];simp only[mN];congr 1;unfold ib;rw[X,q2,q3];rfl)
   go_wp21;refine fu R ?_;rintro x w1 ⟨rfl,rfl⟩;go_wp2_with fail;refine fu E2 ?_;rintro x w2 ⟨rfl,I⟩;have U:=J.trans I;have G:=I.owns E (λ_ _ x=>x);have Y:=ag (yi w2 u5 D (dX ol s k trg) ⟨_,G⟩ oQ);rw[q3]at Y;go_wp21;refine fu Y ?_;rintro x w3 ⟨rfl,rfl⟩;go_wp2_with (at_builtin;refine jk _ rfl (tmp 36) (tmp 38) 38 rfl w.heap.size 3 i0 (int i64 0) 1 8 underlying38 hi hz0 hz1 hz2 rfl aV _ _ _ rfl (G.alloc _) ⟨w3.heap.size,0,none⟩ 1 1 [int i64 (dX ol s k trg)] rfl rfl ?c1 ?c2 ?c3 ?c4 ?c5 ?_)
   case c1=>exact gT _ _ _
   case c2=>intro u hu;simp at hu;subst hu;rfl
   case c3=>unfold maxLen;omega
   case c4=>omega
   case c5=>have:=U.size;simp;omega
   intro v4 w4 o4 g4 _;have K4:=Kp.grown (U.alloc _) g4 (λi hi Z=>by have:=(G.lt i hi).1;omega);go_wp2;exact⟨⟨k+1,_,eb,oQ,by simpa[bO]using o4,by simp;omega,F,K4⟩,ew⟩
  have aj:¬(k:Int)<ol.ah.length:=oQ;have F:=ag (HE.trans (show _=D by rw[show ol.ah.length-k=0 by omega];rfl));go_wp2;go_ret;rw[F];exact⟨_,rfl,E,J⟩
theorem Lx w mb O Q s qv ov ol(t other:Nat)(ht:t<ol.dF.length)(ho:other<ol.dF.length)(hm:j4 w mb O Q s qv ov)(J:Pl w O Q ol)(F:ol.Ok):
 Calls prog 178 #[pointer (some ⟨mb,0,none⟩),int i64 t,int i64 other] w λx w'=>x=returned (bool (Ch.within ol t other))/\Kp bA w w':=by
 obtain⟨a,X⟩:∃s,ol.dF[t]? =some s:=⟨_,au ht⟩
 obtain⟨b,hb⟩:∃s,ol.dF[other]? =some s:=⟨_,au ho⟩
 have am:(t:Int)<(ol.dF.length:Int):=oQ;have aj:(other:Int)<(ol.dF.length:Int):=oQ;have cp:=hm.lK;obtain⟨g,ab,ac,base,c3,cc,ad⟩:=J.tr X;obtain⟨g',R,Z,G,D,I,aa⟩:=J.tr hb;rw[c3]at D;simp only[bE,aH,cA]at D;have U:=D.1;simp only[ei,dV]at U;subst U;have Y:=cc 0 oQ;have b0:=I 0 oQ;simp only[iu,kS]at Y b0;rw[show Ch.within ol t other=aG ol.ah b.state a.state by simp[Ch.within,iG,X,hb]];have wT:=F.ah;have hU:=F.up;have E:=ag (λn:Nat=>oS O Q (w.drewN n) ol.ah b.state a.state hU (by exact J.str) oQ);go_in;go_upto_region 1 with(fail);go_quiet ((go_at_call 218;exact j7 (fA E _)));go_wp2;go_ret;exact⟨rfl,(Kp.refl _ _).drewN _⟩
namespace Ch
def nJ(ss:List St)(D parent:Int):List Int->Bool
 | []=>D==fj ss parent
 |g::l=>if aG ss parent g then(D==g||aG ss D g)else nJ ss D parent l
end Ch
theorem FV w mb I J s qv ov ol D parent v goals(h:yh w v goals)(hl:goals.length<=100000)(hm:j4 w mb I J s qv ov)(hp:Pl w I J ol)(R:ol.Ok):
 Calls prog 165 #[pointer (some ⟨mb,0,none⟩),int i64 D,int i64 parent,v] w λx w'=>x=returned (bool (nJ ol.ah D parent goals))/\Kp bA w w':=by
 have wT:=R.ah;have hU:=R.up;obtain⟨ao,aj,rfl⟩:=h.len;go_in;go_wp;go_loopw [9] (λi wr=>∃k:Nat,i= int i64 k/\k<=goals.length/\Hid (nJ ol.ah D parent goals=nJ ol.ah D parent (goals.drop k))/\Kp bA w wr) (λi _=>goals.length-(intOf i).toNat)
 case atStart=>exact⟨0,rfl,aA _,ag rfl,Kp.refl _ _⟩
 case round=>
  obtain⟨k,rfl,hk,X,F⟩:=hrel;have aa:j4 _ _ _ _ _ _ _:=fq.aB hm F (λx=>x);have G:=hp.aB F (λ_ _ _ _ _ x=>x);have hr:=h.aB F (λ_ _ _ x=>x);have cp:=aa.lK;by_cases Q:k<goals.length
  ·have ab:(k:Int)<(goals.length:Int):=oQ;obtain⟨a,ha⟩:∃s,goals[k]? =some s:=⟨_,au Q⟩
   have⟨g,cap',hg,a0⟩:=hr.at_ ha;simp only[aH,cA]at hg;obtain⟨rfl,rfl⟩:=hg;have Z:goals.drop k=a::goals.drop (k+1):=by
    rw[eR Q];congr 1;exact(aM.1 ha).2
   have O:=ag (λn:Nat=>oS I J (wr.drewN n) ol.ah parent a hU (by exact G.str) oQ);cases U:aG ol.ah parent a with
   |false=>
    simp only[U]at O;have E:=ag (X.out.trans (show _=nJ ol.ah D parent (goals.drop (k+1))by rw[Z];simp only[nJ];rw[U];rfl));go_upto_region 4 with fail;go_quiet ((go_at_call 218;exact j7 (fA O _)));go_wp2;exact⟨⟨k+1,eb,oQ,E,F.drewN _⟩,ew⟩
   |true=>?_
   simp only[U]at O;have am:∀n,(wr.drewN n).cell? ⟨mb,0,none⟩=some (pointer (some ⟨I,J,none⟩)):=λn=>cp;have ad:∀n,(wr.drewN n).cell? ⟨g,k,none⟩=some (int i64 a):=λn=>a0;cases q2:D==a with
   |true=>
    have E:=ag (X.out.trans (show _=true by rw[Z];simp only[nJ];rw[U,q2];rfl));go_upto_region 4 with fail;go_quiet ((go_at_call 218;exact j7 (fA O _)));go_upto_region 5 with fail;go_quiet (fail);go_wp2;go_ret;exact⟨by rw[E.out];rfl,(F.drewN _).drewN _⟩
   |false=>?_
   have Y:=ag (λn:Nat=>oS I J (wr.drewN n) ol.ah D a hU (by exact G.str) oQ);have E:=ag (X.out.trans (show _=aG ol.ah D a by rw[Z];simp only[nJ];rw[U,q2];rfl));go_upto_region 4 with fail;go_quiet ((go_at_call 218;exact j7 (fA O _)));go_upto_region 5 with fail;go_quiet ((go_at_call 218;exact bI (fA Y _) (λ_ _ h=>⟨h.1,_,h.2⟩)));go_wp2;go_ret;exact⟨by rw[E];rfl,(F.drewN _).drewN _⟩
  have ap:¬(k:Int)<goals.length:=oQ;have E:=ag (X.trans (show _=(D==fj ol.ah parent)by rw[dA oQ];rfl));have E3:=ag (qT I J wr ol.ah parent G.str oQ);go_wp;refine cF E3 ?_;go_wp2;go_ret;exact⟨by rw[E];rfl,F⟩
namespace Ch
def ky(ss:List St)(act D:List Bool)(goals:List Int)(i:Int):Bool:=
 if has D i|| !bq ss i (aW ss i)then false
 else if(aW ss i != -1)&& !has act (aW ss i)then false
 else if bn ss (aW ss i)==3 then true
 else !kept ss D (aW ss i)&&nJ ss i (aW ss i) goals
end Ch
theorem Pd w mb R U s qv ov ol i sb l v goals(hL:lE w sb [] l [] 91)(aa:l.length=16)(h:yh w v goals)(hl:goals.length<=100000)(hm:j4 w mb R U s qv ov)(hw:s.Wf)(hp:Pl w R U ol)(ab:ol.Ok):
 Calls prog 117 #[pointer (some ⟨mb,0,none⟩),int i64 i,pointer (some ⟨sb,0,none⟩),v] w λx w'=>x=returned (bool (ky ol.ah s.act l goals i))/\Kp bA w w':=by
 have wT:=ab.ah;have cp:=hm.lK;have J:=ag (iS R U w ol.ah i hp.str oQ);have E:=ag (lu w sb 0 [] l [] 91 i hL aa rfl);have G:=ag (k7 R U w ol.ah i (aW ol.ah i) hp.str oQ);have Y:=ag (lu w mb 1 [pointer (some ⟨R,U,none⟩)] s.act (dK s++[qv,ov]) 149 (aW ol.ah i) hm hw.1 rfl);have Z:=ag (nB R U w ol.ah (aW ol.ah i) hp.str oQ);have Q:=ag (SG w mb R U s qv ov ol sb 0 [] l [] 91 (aW ol.ah i) hm hp oQ hL aa rfl);have E7:=ag (FV w mb R U s qv ov ol i (aW ol.ah i) v goals h hl hm hp ab);cases F:Ch.has l i with
 |true=>
  rw[F]at E;rw[show ky ol.ah s.act l goals i=false by unfold ky;simp[F]];go_in;go_wp2_with fail;refine fu J ?_;rintro x D ⟨rfl,rfl⟩;go_wp2_with fail;refine fu E ?_;rintro x D ⟨rfl,rfl⟩;go_wp2;go_ret;exact⟨rfl,Kp.refl _ _⟩
 |false=>?_
 rw[F]at E;cases I:bq ol.ah i (aW ol.ah i)with
 |true=>
  rw[I]at G;cases q3:(aW ol.ah i)!= -1 with
  |true=>
   cases q4:Ch.has s.act (aW ol.ah i)with
   |true=>
    rw[q4]at Y;cases X:bn ol.ah (aW ol.ah i)==3 with
    |true=>
     rw[show ky ol.ah s.act l goals i=true by unfold ky;simp[F,I,q4,X]];go_in;go_wp2_with fail;refine fu J ?_;rintro x D ⟨rfl,rfl⟩;go_wp2_with fail;refine fu E ?_;rintro x D ⟨rfl,rfl⟩;go_wp2_with fail;refine fu G ?_;rintro x D ⟨rfl,rfl⟩;go_wp2_with fail;refine fu Y ?_;rintro x D ⟨rfl,rfl⟩;go_wp2_with fail;refine fu Z ?_;rintro x D ⟨rfl,rfl⟩;go_wp2;go_ret;exact⟨rfl,Kp.refl _ _⟩
    |false=>?_
    cases O:Ch.kept ol.ah l (aW ol.ah i)with
    |true=>
     rw[O]at Q;rw[show ky ol.ah s.act l goals i=false by unfold ky;simp[F,I,q4,X,O]];go_in;go_wp2_with fail;refine fu J ?_;rintro x D ⟨rfl,rfl⟩;go_wp2_with fail;refine fu E ?_;rintro x D ⟨rfl,rfl⟩;go_wp2_with fail;refine fu G ?_;rintro x D ⟨rfl,rfl⟩;go_wp2_with fail;refine fu Y ?_;rintro x D ⟨rfl,rfl⟩;go_wp2_with fail;refine fu Z ?_;rintro x D ⟨rfl,rfl⟩;go_wp2_with fail;refine fu Q ?_;rintro x D ⟨rfl,rfl⟩;go_wp2;go_ret;exact⟨rfl,Kp.refl _ _⟩
    |false=>?_
    rw[O]at Q;rw[show ky ol.ah s.act l goals i=nJ ol.ah i (aW ol.ah i) goals by unfold ky;simp[F,I,q4,X,O]];go_in;go_wp2_with fail;refine fu J ?_;rintro x D ⟨rfl,rfl⟩;go_wp2_with fail;refine fu E ?_;rintro x D ⟨rfl,rfl⟩;go_wp2_with fail;refine fu G ?_;rintro x D ⟨rfl,rfl⟩;go_wp2_with fail;refine fu Y ?_;rintro x D ⟨rfl,rfl⟩;go_wp2_with fail;refine fu Z ?_;rintro x D ⟨rfl,rfl⟩;go_wp2_with fail;refine fu Q ?_;rintro x D ⟨rfl,rfl⟩;go_wp2_with fail;refine fu E7 ?_;rintro x w7 ⟨rfl,K7⟩;go_wp2;go_ret;exact⟨rfl,K7⟩
   |false=>?_
   rw[q4]at Y;rw[show ky ol.ah s.act l goals i=false by unfold ky;simp[F,I,q3,q4]];go_in;go_wp2_with fail;refine fu J ?_;rintro x D ⟨rfl,rfl⟩;go_wp2_with fail;refine fu E ?_;rintro x D ⟨rfl,rfl⟩;go_wp2_with fail;refine fu G ?_;rintro x D ⟨rfl,rfl⟩;go_wp2_with fail;refine fu Y ?_;rintro x D ⟨rfl,rfl⟩;go_wp2;go_ret;exact⟨rfl,Kp.refl _ _⟩
  |false=>?_
  cases X:bn ol.ah (aW ol.ah i)==3 with
  |true=>
   rw[show ky ol.ah s.act l goals i=true by unfold ky;simp[F,I,q3,X]];go_in;go_wp2_with fail;refine fu J ?_;rintro x D ⟨rfl,rfl⟩;go_wp2_with fail;refine fu E ?_;rintro x D ⟨rfl,rfl⟩;go_wp2_with fail;refine fu G ?_;rintro x D ⟨rfl,rfl⟩;go_wp2_with fail;refine fu Z ?_;rintro x D ⟨rfl,rfl⟩;go_wp2;go_ret;exact⟨rfl,Kp.refl _ _⟩
  |false=>?_
  cases O:Ch.kept ol.ah l (aW ol.ah i)with
  |true=>
   rw[O]at Q;rw[show ky ol.ah s.act l goals i=false by unfold ky;simp[F,I,q3,X,O]];go_in;go_wp2_with fail;refine fu J ?_;rintro x D ⟨rfl,rfl⟩;go_wp2_with fail;refine fu E ?_;rintro x D ⟨rfl,rfl⟩;go_wp2_with fail;refine fu G ?_;rintro x D ⟨rfl,rfl⟩;go_wp2_with fail;refine fu Z ?_;rintro x D ⟨rfl,rfl⟩;go_wp2_with fail;refine fu Q ?_;rintro x D ⟨rfl,rfl⟩;go_wp2;go_ret;exact⟨rfl,Kp.refl _ _⟩
  |false=>?_
  rw[O]at Q;rw[show ky ol.ah s.act l goals i=nJ ol.ah i (aW ol.ah i) goals by unfold ky;simp[F,I,q3,X,O]];go_in;go_wp2_with fail;refine fu J ?_;rintro x D ⟨rfl,rfl⟩;go_wp2_with fail;refine fu E ?_;rintro x D ⟨rfl,rfl⟩;go_wp2_with fail;refine fu G ?_;rintro x D ⟨rfl,rfl⟩;go_wp2_with fail;refine fu Z ?_;rintro x D ⟨rfl,rfl⟩;go_wp2_with fail;refine fu Q ?_;rintro x D ⟨rfl,rfl⟩;go_wp2_with fail;refine fu E7 ?_;rintro x w7 ⟨rfl,K7⟩;go_wp2;go_ret;exact⟨rfl,K7⟩
 |false=>?_
 rw[I]at G;rw[show ky ol.ah s.act l goals i=false by unfold ky;simp[F,I]];go_in;go_wp2_with fail;refine fu J ?_;rintro x D ⟨rfl,rfl⟩;go_wp2_with fail;refine fu E ?_;rintro x D ⟨rfl,rfl⟩;go_wp2_with fail;refine fu G ?_;rintro x D ⟨rfl,rfl⟩;go_wp2;go_ret;exact⟨rfl,Kp.refl _ _⟩
namespace Ch
def eS(ol:Ol)(s:Sd):List Int->List Int
 | []=>[]
 |t::l=>match ol.dF[t.toNat]? with
  |some x=>if x.target==45 then eS ol s l else l5 ol.ah s (place ol.ah x.target)::eS ol s l
  |none=>eS ol s l
def Ae(ol:Ol)(l:List Int):Prop:=∀n∈l,0<=n/\n<(ol.dF.length:Int)
end Ch
theorem Pe w mb J O s qv ov ol v list(h:yh w v list)(aa:Ae ol list)(hl:list.length<=1000)(hm:j4 w mb J O s qv ov)(hw:s.Wf)(hp:Pl w J O ol)(ab:ol.Ok):
 Calls prog 116 #[pointer (some ⟨mb,0,none⟩),v] w λx w'=>∃v',x=returned v'/\w'.ownsRow w.heap.size 3 1 v' (eS ol s list).length (bO (eS ol s list))/\Kp bA w w':=by
 have wT:=ab.ah;have⟨i0,hi,hz0,hz1,hz2⟩:=cr nI;obtain⟨ao,aj,rfl⟩:=h.len;go_in;go_wp;go_loopw [5,6] (λfv i wr=>∃(k:Nat) (D:List Int),i= int i64 k/\k<=list.length/\wr.ownsRow w.heap.size 3 1 fv D.length (bO D)/\D.length<=k/\Hid (eS ol s list=D++eS ol s (list.drop k))/\Kp bA w wr) (λ_ i _=>list.length-(intOf i).toNat)
 case atStart=>exact⟨0,[],rfl,aA _,cd _ _ _ _,aC _,ag rfl,Kp.refl _ _⟩
 case round=>
  obtain⟨k,D,rfl,hk,E,ap,X,Q⟩:=hrel;have F:j4 _ _ _ _ _ _ _:=fq.aB hm Q (λx=>x);have G:=hp.aB Q (λ_ _ _ _ _ x=>x);have hr:=h.aB Q (λ_ _ _ x=>x);have cp:=F.lK;by_cases I:k<list.length
  ·have ad:(k:Int)<(list.length:Int):=oQ;obtain⟨a,Z⟩:∃s,list[k]? =some s:=⟨_,au I⟩
   have⟨g,cap',hg,a0⟩:=hr.at_ Z;simp only[aH,cA]at hg;obtain⟨rfl,rfl⟩:=hg;have ed:list.drop k=a::list.drop (k+1):=by
    rw[eR I];congr 1;exact(aM.1 Z).2
   have⟨ha1,ha2⟩:=aa a (aP Z);obtain⟨j,rfl⟩:∃j:Nat,a=j:=⟨a.toNat,oQ⟩
   have hj:j<ol.dF.length:=oQ;obtain⟨t,ht⟩:∃s,ol.dF[j]? =some s:=⟨_,au hj⟩
   have⟨tg,YC,ac,base,c3,cc,_⟩:=G.tr ht;have b6:=cc 6 oQ;simp only[ir,iu]at b6;have step:eS ol s (list.drop k)=if t.target==45 then eS ol s (list.drop (k+1))else l5 ol.ah s (Ch.place ol.ah t.target)::eS ol s (list.drop (k+1)):=by
    rw[ed];simp only[eS,dE,ht]
   cases q1:t.target==45 with
   |true=>
    have R:=ag (show eS ol s list=D++eS ol s (list.drop (k+1))by rw[X.out,step,q1];rfl);go_upto_region 5 with fail;go_quiet (fail);go_wp2;exact⟨⟨k+1,D,eb,oQ,E,oQ,R,Q.drewN _⟩,ew⟩
   |false=>?_
   have R:=ag (show eS ol s list=(D++[l5 ol.ah s (Ch.place ol.ah t.target)])++eS ol s (list.drop (k+1))by rw[X.out,step,q1];simp);have Y:=c_ F G E;go_upto_region 5 with fail;go_quiet (fail);have KD:=Q.drewN nq;obtain⟨F,G,E⟩:j4 (wr.drewN nq) mb J O s qv ov/\Pl (wr.drewN nq) J O ol/\(wr.drewN nq).ownsRow w.heap.size 3 1 u5 D.length (bO D):=⟨Y.out.1,Y.out.2.1.aB ((Kp.refl bA _).drewN nq) (λ_ _ _ _ _ x=>x),Y.out.2.2⟩
   generalize wr.drewN nq=w5 at*;have am:=F.lK;have E1:=ag (oy J O w5 ol.ah t.target G.str oQ);have E2:=ag (λn:Nat=>Si J O (w5.drewN n) ol.ah mb 1 [pointer (some ⟨J,O,none⟩)] [qv,ov] 149 s (Ch.place ol.ah t.target) (by exact G.str) oQ (by exact F) hw rfl);go_wp;refine fu E1 ?_;rintro x w6 ⟨rfl,rfl⟩;go_upto_region 8 with(fail);go_quiet ((go_at_call 160;exact j7 (fA E2 _)));have KE:=KD.drewN nq;have U:(w6.drewN nq).ownsRow w.heap.size 3 1 u5 D.length (bO D):=E;generalize w6.drewN nq=w7 at*;go_wp2_with (at_builtin;refine jk _ rfl (tmp 47) (tmp 49) 38 rfl w.heap.size 3 i0 (int i64 0) 1 8 underlying38 hi hz0 hz1 hz2 rfl aV _ _ _ rfl (U.alloc _) ⟨w7.heap.size,0,none⟩ 1 1 [int i64 (l5 ol.ah s (Ch.place ol.ah t.target))] rfl rfl ?c1 ?c2 ?c3 ?c4 ?c5 ?_)
   case c1=>exact gT _ _ _
   case c2=>intro u hu;simp at hu;subst hu;rfl
   case c3=>unfold maxLen;omega
   case c4=>omega
   case c5=>have:=KE.size;simp;omega
   intro v4 w8 o4 g4 _;have K4:=Kp.grown (KE.alloc _) g4 (λi hi I=>by have:=(U.lt i hi).1;omega);go_wp2;exact⟨⟨k+1,_,eb,oQ,by simpa[bO]using o4,by simp;omega,R,K4⟩,ew⟩
  have aI:¬(k:Int)<list.length:=oQ;have R:=ag (X.trans (show _=D by rw[dA oQ];simp[eS]));go_wp2;go_ret;rw[R];exact⟨_,rfl,E,Q⟩
