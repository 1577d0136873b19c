import Derived.Test.YtnlbchmfcebeeaaGreatTV2
set_option maxHeartbeats 12800000
set_option maxRecDepth 100000
namespace Go.Proofs.YtnlbchmfcebeeaaGreat
open Go.Proofs.Tryz Ch
open Go.RowKit
namespace Ch
structure ShC(P:List (Int×Int))(M:Option Nat->Nat->Nat->Prop):Prop where
 leaf:∀{i:Nat} {k p:Int},P[i]? =some (k,p)->(k=1\/k=4\/k=5)->M none i (i+1)
 box:∀{i e:Nat} {k p:Int},P[i]? =some (k,p)->(k=2\/k=3)->M (some i) (i+1) e->(∃(j:Nat) (q:Int),P[j]? =some (q,(i:Int))/\q≠5)->M none i e
 nil:∀{i j:Nat},M (some i) j j
 cons:∀{i j e f:Nat} {q:Int},P[j]? =some (q,(i:Int))->(q=4\/q=5->∃p:Int,P[i]? =some (2,p))->M none j e->M (some i) e f->M (some i) j f
def Sh(P:List (Int×Int))(o:Option Nat)(i e:Nat):Prop:=∀M,ShC P M->M o i e
section
variable {P:List (Int×Int)}
theorem Sh.leaf{i:Nat}{k p:Int}(h:P[i]? =some (k,p))(hk:k=1\/k=4\/k=5):Sh P none i (i+1):=λ_ c=>c.leaf h hk
theorem Sh.box{i e:Nat}{k p:Int}(h:P[i]? =some (k,p))(hk:k=2\/k=3)(hs:Sh P (some i) (i+1) e)(hx:∃(j:Nat) (q:Int),P[j]? =some (q,(i:Int))/\q≠5):Sh P none i e:=λM c=>c.box h hk (hs M c) hx
theorem Sh.nil{i j:Nat}:Sh P (some i) j j:=λ_ c=>c.nil
theorem Sh.cons{i j e f:Nat}{q:Int}(h:P[j]? =some (q,(i:Int)))(hq:q=4\/q=5->∃p:Int,P[i]? =some (2,p))(h1:Sh P none j e)(h2:Sh P (some i) e f):Sh P (some i) j f:=λM c=>c.cons h hq (h1 M c) (h2 M c)
theorem Sh.ind{M:(o:Option Nat)->(i e:Nat)->Sh P o i e->Prop}
 (leaf:∀{i:Nat} {k p:Int} (h:P[i]? =some (k,p)) (hk:k=1\/k=4\/k=5),M none i (i+1) (.leaf h hk))
 (box:∀{i e:Nat} {k p:Int} (h:P[i]? =some (k,p)) (hk:k=2\/k=3) (hs:Sh P (some i) (i+1) e) (hx:∃(j:Nat) (q:Int),P[j]? =some (q,(i:Int))/\q≠5),M (some i) (i+1) e hs->M none i e (.box h hk hs hx))
 (nil:∀{i j:Nat},M (some i) j j .nil)
 (cons:∀{i j e f:Nat} {q:Int} (h:P[j]? =some (q,(i:Int))) (hq:q=4\/q=5->∃p:Int,P[i]? =some (2,p)) (h1:Sh P none j e) (h2:Sh P (some i) e f),M none j e h1->M (some i) e f h2->M (some i) j f (.cons h hq h1 h2))
 {o:Option Nat} {i e:Nat} (h:Sh P o i e):M o i e h:=
 (h (λo i e=>∃h,M o i e h) ⟨λh hk=>⟨_,leaf h hk⟩,λh hk ⟨_,m⟩ hx=>⟨_,box h hk _ hx m⟩,⟨_,nil⟩,λh hq ⟨_,m1⟩ ⟨_,m2⟩=>⟨_,cons h hq _ _ m1 m2⟩⟩).2
end
theorem Sh.inv{P:List (Int×Int)}{o:Option Nat}{i e:Nat}(h:Sh P o i e):(∀c,o=some c->e=i\/∃(e1:Nat) (q:Int),P[i]? =some (q,(c:Int))/\Sh P none i e1/\Sh P (some c) e1 e)/\
 (o=none->∃k p:Int,P[i]? =some (k,p)/\((k=1\/k=4\/k=5)/\e=i+1\/(k=2\/k=3)/\Sh P (some i) (i+1) e)):=by
 induction h using Sh.ind with
 |leaf h hk=>exact⟨λc x=>(by cases x),λ_=>⟨_,_,h,.inl ⟨hk,rfl⟩⟩⟩
 |box h hk hs _ _=>exact⟨λc x=>(by cases x),λ_=>⟨_,_,h,.inr ⟨hk,hs⟩⟩⟩
 |nil=>exact⟨λc _=>.inl rfl,λx=>(by cases x)⟩
 |cons h _ h1 h2 _ _=>exact⟨λc x=>(by cases x;exact .inr ⟨_,_,h,h1,h2⟩),λx=>(by cases x)⟩
theorem Sh.within{P:List (Int×Int)}{c i e:Nat}(h:Sh P (some c) i e):e=i\/∃(e1:Nat) (q:Int),P[i]? =some (q,(c:Int))/\Sh P none i e1/\Sh P (some c) e1 e:=h.inv.1 c rfl
theorem Sh.whole{P:List (Int×Int)}{i e:Nat}(h:Sh P none i e):∃k p:Int,P[i]? =some (k,p)/\((k=1\/k=4\/k=5)/\e=i+1\/(k=2\/k=3)/\Sh P (some i) (i+1) e):=h.inv.2 rfl
theorem eW{P Q:List (Int×Int)}{i:Nat}{x:Int×Int}(h:P[i]? =some x):(P++Q)[i]? =some x:=by
 rw[List.getElem?_append_left (List.getElem?_eq_some_iff.1 h).1];exact h
theorem Sh.mono{P:List (Int×Int)}(Q:List (Int×Int)){o:Option Nat}{i e:Nat}(h:Sh P o i e):Sh (P++Q) o i e:=by
 induction h using Sh.ind with
 |leaf h1 h2=>exact .leaf (eW h1) h2
 |box h1 h2 _ h4 ih=>obtain⟨j,q,h5,h6⟩:=h4;exact .box (eW h1) h2 ih ⟨j,q,eW h5,h6⟩
 |nil=>exact .nil
 |cons h1 h2 _ _ i1 i2=>exact .cons (eW h1) (λx=>by obtain⟨p,hp⟩:=h2 x;exact⟨p,eW hp⟩) i1 i2
theorem Sh.snoc{P:List (Int×Int)}{o:Option Nat}{j e:Nat}(h:Sh P o j e):∀{i f:Nat} {q:Int},o=some i->P[e]? =some (q,(i:Int))->(q=4\/q=5->∃p:Int,P[i]? =some (2,p))->Sh P none e f->Sh P (some i) j f:=by
 induction h using Sh.ind with
 |leaf _ _=>intro i f q e;cases e
 |box _ _ _ _ _=>intro i f q e;cases e
 |nil=>intro i f q e h1 h2 h3;cases e;exact .cons h1 h2 h3 .nil
 |cons g1 g2 g3 _ _ ih=>intro i f q e h1 h2 h3;cases e;exact .cons g1 g2 g3 (ih rfl h1 h2 h3)
def ZZ(depth len r:Nat):Bool:=decide (3<depth)||decide (8<len)||(decide (0<depth)&&decide (r<3))
end Ch
theorem WB:(prog.info? 113).map (λi=>(i.zero,i.size,i.bytes))=some (some (.agg #[.int .i64 0,.int .i64 0]),2,16):=by kernel_rfl
section
variable (w:World) {B b:Nat} {lv:Value} {n a:Nat} {P:List (Int×Int)} {room:Nat} {pv:Value}
theorem tG(h:Mk w B b lv n a P room pv)(kind parent:Int)(hP:P.length<=1000):
 Calls prog 75 #[.pointer (some ⟨b,0,none⟩),.int .i64 kind,.int .i64 parent] w λx w'=>∃pv',x= .returned (.int .i64 P.length)/\Mk w' B b lv n a (P++[(kind,parent)]) room pv'/\Below B w w':=by
 obtain⟨i0,hi,hz0,hz1,hz2⟩:=info_parts WB;have c2:=h.c2;have K1:Kp (λ_=>False) w (w.alloc (.cells #[.int .i64 kind,.int .i64 parent] 113)):=(Kp.refl _ _).alloc _;have h1:=h.ai K1;have afK:=h1.pts;have hS:=h.pd;have H:=hid h;have H1:=hid h1;clear h h1
 go_enter func75,ntmps75
 go_wp2_with (at_builtin;refine wpList_append_own _ rfl (.tmp 11) (.tmp 15) 39 rfl B 113 i0 (.agg #[.int .i64 0,.int .i64 0]) 2 16 underlying39 hi hz0 hz1 hz2 rfl (by decide) _ _ _ rfl afK ⟨w.heap.size,0,none⟩ 1 1 [.int .i64 kind,.int .i64 parent] rfl rfl ?c1 ?c2 ?c3 ?c4 ?c5 ?_)
 case c1=>exact jT _ _ _ _
 case c2=>intro u hu;simp at hu;rcases hu with rfl|rfl<;>rfl
 case c3=>unfold maxLen;omega
 case c4=>omega
 case c5=>simp;omega
 intro v4 w4 o4 g4 _;have hne:=H1.out.ne;have hlow:=H.out.low;have KG:Kp (λk=>pv.ownBlock=some k) (w.alloc (.cells #[.int .i64 kind,.int .i64 parent] 113)) w4:=(Kp.refl _ _).grown g4 (λk hk _=>hk);have B4:Below B w w4:=(aG K1 hS).trans (KG.below H1.out.pd (λi x=>(H1.out.pts.lt i x).1));have hb4:w4.heap[b]? =some (.cells #[lv,.int .i64 a,pv,.int .i64 room] 102 (0,0)):=KG.at_ H1.out.blk hne;have hi4:=H1.out.ints.keep (KG.below H1.out.pd (λi x=>(H1.out.pts.lt i x).1))
 have x1:w4.cell? ⟨b,2,none⟩=some pv:=by rw[World.cell?,hb4];rfl
 have x2:w4.frozen? ⟨b,2,none⟩=false:=by simp[World.frozen?,hb4]
 have Rm:=own_ne o4 hb4 (by decide);have K5:Kp (λk=>k=b) w4 (w4.setCell ⟨b,2,none⟩ v4):=(Kp.refl _ _).setCell (by intro _;rfl) _
 have M5:Mk (w4.setCell ⟨b,2,none⟩ v4) B b lv n a (P++[(kind,parent)]) room v4:=by
  refine⟨hlow,?_,?_,hi4.keep (K5.below (by have:=B4.size;omega) (λi x=>by omega)),H.out.nle⟩
  ·rw[ah _ hb4];rfl
  have:=K5.owns o4 (λi e x=>Rm (by rw[<-x];exact e));rw[GU];simpa using this
 have B5:Below B w (w4.setCell ⟨b,2,none⟩ v4):=B4.trans (K5.below (by have:=B4.size;omega) (λi x=>by omega));have hc5:=M5.c2;obtain⟨ao,cap,rfl⟩:=aF o4;have HM:=hid (ae M5 B5);clear M5 B5 K5 Rm hi4 hb4 B4 KG hne o4 g4 H1 H afK K1;go_wp2;go_ret;exact⟨_,by congr 2,HM.out.1,HM.out.2⟩
structure GrQ(w w':World)(B b:Nat)(lv:Value)(n a:Nat)(P:List (Int×Int))(room:Nat)(parent:Int)(f:Nat)(a':Nat)(P':List (Int×Int))(pv':Value):Prop where
 Ms:Mk w' B b lv n a' P' room pv'
 mY:Below B w w'
 ext:∃Q,P'=P++Q
 sh:Sh P' none P.length P'.length
 hd:∃k:Int,P'[P.length]? =some (k,parent)/\(k=1\/k=2\/k=3)/\(f=4/\P.length=0->k≠1)
 len:P'.length<=P.length+1\/P'.length<=11+f
 lt:P.length<P'.length
 cnt:a'+1+5*P.length<=a+5*P'.length
def GrP(w w':World)(B b:Nat)(lv:Value)(n a:Nat)(P:List (Int×Int))(room:Nat)(parent:Int)(f:Nat):Prop:=∃a' P' pv',GrQ w w' B b lv n a P room parent f a' P' pv'
structure GrL(w w':World)(B b:Nat)(lv:Value)(n a:Nat)(P:List (Int×Int))(room:Nat)(f:Nat)(p:Int)(a':Nat)(P':List (Int×Int))(pv':Value):Prop where
 Ms:Mk w' B b lv n a' P' room pv'
 mY:Below B w w'
 ext:∃Q,P'=P++[(2,p)]++Q
 sh:Sh P' (some P.length) (P.length+1) P'.length
 kid:∃(j:Nat) (q:Int),P'[j]? =some (q,(P.length:Int))/\q≠5
 len:P'.length<=10+f
 cnt:a'+1+5*P.length<=a+5*P'.length
def GrowAt(B b:Nat)(lv:Value)(n room f:Nat):Prop:=∀(w:World) (a:Nat) (P:List (Int×Int)) (pv:Value) (parent:Int) (depth:Nat),depth+f=4->Mk w B b lv n a P room pv->P.length<=15->a<=5*P.length+10->
 Calls prog 45 #[.pointer (some ⟨b,0,none⟩),.int .i64 parent,.int .i64 depth] w λx w'=>x= .returned (.tuple #[])/\GrP w w' B b lv n a P room parent f
theorem Ey(f:Nat)(ih:∀g,f=g+1->GrowAt B b lv n room g):GrowAt B b lv n room f:=by
 intro w a P pv parent depth hdf hM hP ha;have E0:=hid (dB w hM 6 (by omega) (by omega) (by omega));clear hM
 go_enter func45,ntmps45
 go_wp2_with fail
 refine hm E0 ?_;rintro x w1 ⟨r,a1,rfl,hr,ha1,M1,B1⟩;clear E0;have c2:=M1.c2;obtain⟨pao,pcap,hpv⟩:=aF M1.pts;rw[hpv]at c2;have H1:=hid (ae M1 B1);clear M1 B1
 go_upto_region 1 with(fail)
 go_cut [31]from 14 to 30 (λc wx=>c= .bool (ZZ depth P.length r)/\wx=w1)
 case first=>
  by_cases g1:3<depth
  ·have g1':(3:Int)<(depth:Int):=by omega
   go_wp2_with fail
   go_meet
   exact⟨by simp[ZZ,g1],rfl⟩
  have g1':¬(3:Int)<(depth:Int):=by omega
  by_cases g2:8<P.length
  ·have g2':(8:Int)<(P.length:Int):=by omega
   go_wp2_with fail
   go_meet
   exact⟨by simp[ZZ,g2],rfl⟩
  have g2':¬(8:Int)<(P.length:Int):=by omega
  by_cases g3:0<depth
  ·have g3':(0:Int)<(depth:Int):=by omega
   by_cases g4:r<3
   ·have g4':(r:Int)<3:=by omega
    go_wp2_with fail
    go_meet
    exact⟨by simp[ZZ,g3,g4],rfl⟩
   have g4':¬(r:Int)<3:=by omega
   go_wp2_with fail
   go_meet
   exact⟨by simp[ZZ,g1,g2,g4],rfl⟩
  have g3':¬(0:Int)<(depth:Int):=by omega
  go_wp2_with fail
  go_meet
  exact⟨by simp[ZZ,g1,g2,g3],rfl⟩
 case rest=>
  obtain⟨rfl,rfl⟩:=hcut;obtain⟨M1,B1⟩:=H1.out;clear c2
  cases q:ZZ depth P.length r with
  |true=>
   have E:=hid (tG wc M1 1 parent (by omega))
   have hq:¬(f=4/\P.length=0):=by unfold ZZ at q;simp at q;omega
   have HQ:=hid hq;clear M1 q hq
   go_wp2_with fail
   refine hm E ?_;rintro x w2 ⟨pv2,rfl,M2,B2⟩;clear E;go_wp2;refine bodyPost_ret (results_none rfl _ _ _) rfl ?_;refine⟨rfl,a1,_,pv2,M2,B1.trans B2,⟨_,rfl⟩,?_,⟨1,by simp,Or.inl rfl,λx=>absurd x HQ.out⟩,Or.inl (by simp),by simp,by simp;omega⟩
   have:(P++[((1:Int),parent)]).length=P.length+1:=by simp
   rw[this];exact .leaf (k:=1) (p:=parent) (by simp) (Or.inl rfl)
  |false=>?_
  have hq:depth<=3/\P.length<=8:=by unfold ZZ at q;simp at q;omega
  obtain⟨g,rfl⟩:∃g,f=g+1:=⟨f-1,by omega⟩
  have hd1:((depth+1:Nat):Int)=(depth:Int)+1:=by omega
  have IH:∀(w:World) (a:Nat) (P:List (Int×Int)) (pv:Value) (parent:Int),Mk w B b lv n a P room pv->P.length<=15->a<=5*P.length+10->Hid (Calls prog 45 #[.pointer (some ⟨b,0,none⟩),.int .i64 parent,.int .i64 ((depth:Int)+1)] w λx w'=>x= .returned (.tuple #[])/\GrP w w' B b lv n a P room parent g):=by
   intro w a P pv parent h1 h2 h3;have:=ih g rfl w a P pv parent (depth+1) (by omega) h1 h2 h3;rw[hd1]at this;exact hid this
  clear hd1
  by_cases h5:r=5
  ·subst h5
   have E:=hid (tG wc M1 3 parent (by omega));clear M1 q
   go_wp2_with fail
   refine hm E ?_;rintro x w2 ⟨pv2,rfl,M2,B2⟩
   have l2:(P++[((3:Int),parent)]).length=P.length+1:=by simp
   have E2:=(IH w2 a1 _ pv2 (P.length:Int) M2 (by omega) (by omega))
   clear E M2
   go_wp2_with fail
   refine hm E2 ?_;rintro x w3 ⟨rfl,a3,P3,pv3,G3⟩;obtain⟨Q3,hQ3⟩:=G3.ext;have t3:=G3.lt;have n3:=G3.len;have k3:=G3.cnt;rw[l2]at t3 n3 k3
   have E3:=(IH w3 a3 _ pv3 (P.length:Int) G3.Ms (by omega) (by omega))
   clear E2
   go_wp2_with fail
   refine hm E3 ?_;rintro x w4 ⟨rfl,a4,P4,pv4,G4⟩;clear E3 IH ih;go_wp2;refine bodyPost_ret (results_none rfl _ _ _) rfl ?_;obtain⟨Q4,hQ4⟩:=G4.ext;have t4:=G4.lt;have n4:=G4.len;have k4:=G4.cnt;obtain⟨c3,e3,f3,_⟩:=G3.hd;obtain⟨c4,e4,f4,_⟩:=G4.hd;rw[l2]at e3
   have h0:P3[P.length]? =some (3,parent):=by rw[hQ3];exact eW (by simp)
   have s3:=G3.sh;rw[l2]at s3;refine⟨rfl,a4,P4,pv4,G4.Ms,((B1.trans B2).trans G3.mY).trans G4.mY,⟨[(3,parent)]++Q3++Q4,by rw[hQ4,hQ3];simp⟩,?_,⟨3,by rw[hQ4];exact eW h0,Or.inr (Or.inr rfl),λ_=>by decide⟩,Or.inr (by omega),by omega,by omega⟩;refine .box (k:=3) (p:=parent) (by rw[hQ4];exact eW h0) (Or.inr rfl) ?_ ⟨P.length+1,c3,by rw[hQ4];exact eW e3,by omega⟩;refine .cons (q:=c3) (e:=P3.length) (by rw[hQ4];exact eW e3) (λx=>by omega) (by rw[hQ4];exact s3.mono _) ?_;exact .cons e4 (λx=>by omega) G4.sh .nil
  have h5':¬(r:Int)=5:=by omega
  have E:=hid (tG wc M1 2 parent (by omega));clear M1 q
  go_wp2_with fail
  refine hm E ?_;rintro x w2 ⟨pv2,rfl,M2,B2⟩
  have l2:(P++[((2:Int),parent)]).length=P.length+1:=by simp
  have E2:=hid (dB w2 M2 3 (by omega) (by omega) (by omega));clear E M2
  go_wp2_with fail
  refine hm E2 ?_;rintro x w3 ⟨past,a3,rfl,hpast,ha3,M3,B3⟩;clear E2
  go_upto_if 56 with(fail)
  go_cut [57]from 57 to 59 (λ_ wx=>∃Q pvx,(Q=[]\/Q=[((5:Int),(P.length:Int))])/\Mk wx B b lv n a3 (P++[((2:Int),parent)]++Q) room pvx/\Below B w wx)
  case first=>
   have B13:=(B1.trans B2).trans B3
   by_cases g1:past=0
   ·subst g1
    have E:=hid (tG w3 M3 5 (P.length:Int) (by omega));clear M3
    go_wp2_with fail
    refine hm E ?_;rintro x w4 ⟨pv4,rfl,M4,B4⟩;clear E
    go_wp2_with fail
    go_meet
    exact⟨_,pv4,Or.inr rfl,M4,B13.trans B4⟩
   have g1':¬(past:Int)=0:=by omega
   go_wp2_with fail
   go_meet
   exact⟨[],pv2,Or.inl rfl,by simpa using M3,B13⟩
  case rest=>
   obtain⟨Q,pv4,hQ,M4,B4⟩:=hcut;clear M3 B3
   have l4:(P++[((2:Int),parent)]++Q).length=P.length+1+Q.length:=by simp;omega
   have lQ:Q.length<=1:=by rcases hQ with rfl|rfl<;>simp
   have E:=(IH wc a3 _ pv4 (P.length:Int) M4 (by omega) (by omega))
   clear M4
   go_wp2_with fail
   refine hm E ?_;rintro x w5 ⟨rfl,a5,P5,pv5,G5⟩;obtain⟨Q5,hQ5⟩:=G5.ext;have t5:=G5.lt;have n5:=G5.len;have k5:=G5.cnt;rw[l4]at t5 n5 k5;have E2:=hid (dB w5 G5.Ms 3 (by omega) (by omega) (by omega));clear E
   go_wp2_with fail
   refine hm E2 ?_;rintro x w6 ⟨kk,a6,rfl,hkk,ha6,M6,B6⟩;clear E2;have h0:(P++[((2:Int),parent)]++Q)[P.length]? =some (2,parent):=eW (by simp)
   have hL:GrL w w6 B b lv n a P room (g+1) parent a6 P5 pv5:=by
    obtain⟨c5,e5,f5,_⟩:=G5.hd;rw[l4]at e5;have s5:=G5.sh;rw[l4]at s5
    have hsh:Sh P5 (some P.length) (P.length+1) P5.length:=by
     rcases hQ with rfl|rfl
     ·simp only[List.length_nil,Nat.add_zero]at s5 e5
      exact .cons e5 (λx=>by omega) s5 .nil
     have hh:P5[P.length+1]? =some (5,(P.length:Int)):=by rw[hQ5];exact eW (by rw[List.getElem?_append_right (by simp)];simp)
     refine .cons hh (λ_=>⟨parent,by rw[hQ5];exact eW h0⟩) (.leaf hh (Or.inr (Or.inr rfl))) ?_;exact .cons e5 (λx=>by omega) s5 .nil
    exact⟨M6,(B4.trans G5.mY).trans B6,⟨Q++Q5,by rw[hQ5];simp⟩,hsh,⟨_,c5,e5,by omega⟩,by omega,by omega⟩
   clear M6 B6 G5 B4 B2
   go_wp2_with fail
   go_loopw [10] (λi wr=>∃k:Nat,i= .int .i64 k/\k<=2/\Hid (∃a' P' pv',GrL w wr B b lv n a P room (g+1) parent a' P' pv')) (λi _=>(intOf i).toNat)
   case atStart=>exact⟨kk,rfl,by omega,hid ⟨_,_,_,hL⟩⟩
   case round=>
    obtain⟨k,rfl,hk,HG⟩:=hrel;obtain⟨a7,P7,pv7,G7⟩:=HG.out;clear HG hL;have c7:=G7.Ms.c2;obtain⟨aoD,alZ,ajs⟩:=aF G7.Ms.pts;rw[ajs]at c7;obtain⟨Q7,YX⟩:=G7.ext;have n7:=G7.len;have k7:=G7.cnt
    have z7:P7[P.length]? =some (2,parent):=by rw[YX];exact eW (by simp)
    have hdone:GrP w wr B b lv n a P room parent (g+1):=
     ⟨a7,P7,pv7,G7.Ms,G7.mY,⟨[(2,parent)]++Q7,by rw[YX];simp⟩,.box z7 (Or.inl rfl) G7.sh G7.kid,⟨2,z7,Or.inr (Or.inl rfl),λ_=>by decide⟩,Or.inr (by omega),(List.getElem?_eq_some_iff.1 z7).1,G7.cnt⟩
    have HD:=hid hdone;have HQ7:=hid YX;clear hdone YX
    by_cases hk0:0<k
    ·have hk0':(0:Int)<(k:Int):=by omega
     by_cases hl:P7.length<11
     ·have hl':(P7.length:Int)<11:=by omega
      have E:=hid (dB wr G7.Ms 5 (by omega) (by omega) (by have:=(List.getElem?_eq_some_iff.1 z7).1;omega))
      go_wp2_with fail
      refine hm E ?_;rintro x w8 ⟨en,a8,rfl,hen,ha8,M8,B8⟩;clear E HD c7
      by_cases he:en=0
      ·subst he
       have E:=hid (tG w8 M8 4 (P.length:Int) (by omega));clear M8
       go_wp2_with fail
       refine hm E ?_;rintro x w9 ⟨pv9,rfl,M9,B9⟩;clear E
       have l9:(P7++[((4:Int),(P.length:Int))]).length=P7.length+1:=by simp
       have hz:(P7++[((4:Int),(P.length:Int))])[P7.length]? =some (4,(P.length:Int)):=by simp
       have YX:=HQ7.out
       have GG:GrL w w9 B b lv n a P room (g+1) parent a8 (P7++[((4:Int),(P.length:Int))]) pv9:=by
        refine⟨M9,(G7.mY.trans B8).trans B9,⟨Q7++[(4,(P.length:Int))],by rw[YX];simp⟩,?_,?_,by omega,by omega⟩
        ·rw[l9]
         exact(G7.sh.mono _).snoc rfl hz (λ_=>⟨parent,eW z7⟩) (.leaf hz (Or.inr (Or.inl rfl)))
        obtain⟨j,q,h1,h2⟩:=G7.kid;exact⟨j,q,eW h1,h2⟩
       have HH:=hid GG;clear YX;clear GG M9 B9 G7
       go_wp2_with fail
       go_roundw
       case rel=>exact⟨k-1,by go_num,by omega,hid ⟨_,_,_,HH.out⟩⟩
       case measure=>simp[intOf];omega
      have he':¬(en:Int)=0:=by omega
      have E:=(IH w8 a8 _ pv7 (P.length:Int) M8 (by omega) (by have:=(List.getElem?_eq_some_iff.1 z7).1;omega))
      clear M8
      go_wp2_with fail
      refine hm E ?_;rintro x w9 ⟨rfl,a9,P9,pv9,G9⟩;clear E;have YX:=HQ7.out
      have GG:GrL w w9 B b lv n a P room (g+1) parent a9 P9 pv9:=by
       obtain⟨Q9,hQ9⟩:=G9.ext;have n9:=G9.len;have k9:=G9.cnt;obtain⟨c9,e9,f9,_⟩:=G9.hd;refine⟨G9.Ms,(G7.mY.trans B8).trans G9.mY,⟨Q7++Q9,by rw[hQ9,YX];simp⟩,?_,?_,by omega,by omega⟩
       ·have:=G7.sh.mono Q9
        rw[<-hQ9]at this;exact this.snoc rfl e9 (λx=>by omega) G9.sh
       obtain⟨j,q,h1,h2⟩:=G7.kid;exact⟨j,q,by rw[hQ9];exact eW h1,h2⟩
      have HH:=hid GG;clear YX;clear GG G9 G7
      go_wp2_with fail
      go_roundw
      case rel=>exact⟨k-1,by go_num,by omega,hid ⟨_,_,_,HH.out⟩⟩
      case measure=>simp[intOf];omega
     have hl':¬(P7.length:Int)<11:=by omega
     clear G7
     go_wp2_with fail
     go_end0
     exact⟨rfl,HD.out⟩
    have hk0':¬(0:Int)<(k:Int):=by omega
    clear G7
    go_wp2_with fail
    go_end0
    exact⟨rfl,HD.out⟩
theorem SR:∀f,GrowAt B b lv n room f:=by
 intro f
 induction f with
 |zero=>exact Ey 0 (λg h=>by omega)
 |succ f ih=>exact Ey (f+1) (λg h=>by obtain rfl:g=f:=by omega
                                      exact ih)
end
namespace Ch
section
variable {P:List (Int×Int)}
theorem Sh.le{o:Option Nat}{i e:Nat}(h:Sh P o i e):i<=e/\(o=none->i<e):=by
 induction h using Sh.ind with
 |leaf _ _=>omega
 |box _ _ _ _ ih=>exact⟨by omega,λ_=>by omega⟩
 |nil=>exact⟨Nat.le_refl _,λx=>by cases x⟩
 |cons _ _ _ _ i1 i2=>exact⟨by have:=i1.2 rfl;omega,λx=>by cases x⟩
theorem Sh.par{o:Option Nat}{i e:Nat}(h:Sh P o i e):∀(k:Nat) (q p:Int),i<=k->k<e->P[k]? =some (q,p)->
 (o=none/\k=i)\/(∃c:Nat,o=some c/\p=(c:Int))\/∃j:Nat,p=(j:Int)/\i<=j/\j<e:=by
 induction h using Sh.ind with
 |leaf _ _=>intro k q p h1 h2 _;exact Or.inl ⟨rfl,by omega⟩
 | @box i e _ _ _ _ hs _ ih=>
   intro k q p h1 h2 h3
   by_cases hk:k=i
   ·exact Or.inl ⟨rfl,hk⟩
   have:=hs.le
   rcases ih k q p (by omega) h2 h3 with⟨x,_⟩|⟨c,e1,e2⟩|⟨j,e1,e2,e3⟩
   ·cases x
   ·cases e1;exact Or.inr (Or.inr ⟨i,e2,by omega,by omega⟩)
   exact Or.inr (Or.inr ⟨j,e1,by omega,e3⟩)
 |nil=>intro k q p h1 h2;omega
 | @cons i j e f q0 g1 _ hs1 hs2 i1 i2=>?_
 intro k q p h1 h2 h3;have l1:=hs1.le;have l2:=hs2.le
 by_cases hk:k<e
 ·rcases i1 k q p h1 hk h3 with⟨_,x⟩|⟨c,e1,e2⟩|⟨m,e1,e2,e3⟩
  ·subst x;rw[g1]at h3;simp at h3;exact Or.inr (Or.inl ⟨i,rfl,h3.2.symm⟩)
  ·cases e1
  exact Or.inr (Or.inr ⟨m,e1,e2,by omega⟩)
 rcases i2 k q p (by omega) h2 h3 with⟨x,_⟩|⟨c,e1,e2⟩|⟨m,e1,e2,e3⟩
 ·cases x
 ·exact Or.inr (Or.inl ⟨c,e1,e2⟩)
 exact Or.inr (Or.inr ⟨m,e1,by omega,e3⟩)
theorem Sh.kind{o:Option Nat}{i e:Nat}(h:Sh P o i e):∀(k:Nat) (q p:Int),i<=k->k<e->P[k]? =some (q,p)->1<=q/\q<=5/\(q=2\/q=3->∃(j:Nat) (c:Int),P[j]? =some (c,(k:Int))/\c≠5):=by
 induction h using Sh.ind with
 | @leaf i k0 p0 g1 g2=>
   intro k q p h1 h2 h3
   obtain rfl:k=i:=by omega
   rw[g1]at h3;simp at h3;obtain⟨rfl,_⟩:=h3;exact⟨by omega,by omega,λx=>by omega⟩
 | @box i e _ _ g1 g2 hs g4 ih=>
   intro k q p h1 h2 h3
   by_cases hk:k=i
   ·subst hk;rw[g1]at h3;simp at h3;obtain⟨rfl,_⟩:=h3
    exact⟨by omega,by omega,λ_=>g4⟩
   exact ih k q p (by omega) h2 h3
 |nil=>intro k q p h1 h2;omega
 | @cons i j e f q0 g1 _ hs1 hs2 i1 i2=>?_
 intro k q p h1 h2 h3
 by_cases hk:k<e
 ·exact i1 k q p h1 hk h3
 exact i2 k q p (by omega) h2 h3
theorem Sh.up{o:Option Nat}{i e:Nat}(h:Sh P o i e):(∀c,o=some c->c<i/\∃kd pp:Int,P[c]? =some (kd,pp)/\(kd=2\/kd=3))->∀(k:Nat) (q p:Int),i<=k->k<e->P[k]? =some (q,p)->
 (o=none/\k=i)\/∃c:Nat,p=(c:Int)/\c<k/\∃kd pp:Int,P[c]? =some (kd,pp)/\(kd=2\/kd=3)/\(q=4\/q=5->kd=2):=by
 induction h using Sh.ind with
 |leaf _ _=>intro _ k q p h1 h2 _;exact Or.inl ⟨rfl,by omega⟩
 | @box i e _ _ g1 g2 hs _ ih=>
   intro _ k q p h1 h2 h3
   by_cases hk:k=i
   ·exact Or.inl ⟨rfl,hk⟩
   rcases ih (λc hc=>by cases hc;exact⟨by omega,_,_,g1,g2⟩) k q p (by omega) h2 h3 with⟨x,_⟩|x
   ·cases x
   exact Or.inr x
 |nil=>intro _ k q p h1 h2;omega
 | @cons i j e f q0 g1 g2 hs1 hs2 i1 i2=>?_
 intro ho k q p h1 h2 h3;have l1:=hs1.le.2 rfl;obtain⟨hi,kd,pp,e1,e2⟩:=ho i rfl
 by_cases hk:k<e
 ·rcases i1 (λc hc=>by cases hc) k q p h1 hk h3 with⟨_,x⟩|x
  ·subst x;rw[g1]at h3;simp at h3;obtain⟨rfl,rfl⟩:=h3
   refine Or.inr ⟨i,rfl,hi,kd,pp,e1,e2,λx=>?_⟩;obtain⟨p2,e3⟩:=g2 x;rw[e1]at e3;simp at e3;exact e3.1
  exact Or.inr x
 rcases i2 (λc hc=>by cases hc;exact⟨by omega,_,_,e1,e2⟩) k q p (by omega) h2 h3 with⟨x,_⟩|x
 ·cases x
 exact Or.inr x
theorem Sh.ajv(h:Sh P none 0 P.length)(hl:P.length<=16)(hr:∃k:Int,P[0]? =some (k,-1)/\(k=2\/k=3)):Du P where
 len:=hl
 root:=hr
 kind:=λj q p hj=>by have:=h.kind j q p (by omega) (List.getElem?_eq_some_iff.1 hj).1 hj;exact⟨this.1,this.2.1⟩
 par:=λj q p hj=>by
  rcases h.up (λc hc=>by cases hc) j q p (by omega) (List.getElem?_eq_some_iff.1 hj).1 hj with⟨_,x⟩|x
  ·exact Or.inl x
  exact Or.inr x
 kid:=λi k p hi hk=>(h.kind i k p (by omega) (List.getElem?_eq_some_iff.1 hi).1 hi).2.2 hk
theorem Wr.snoc{o:Option Nat}{j e:Nat}{ss:List Int}(h:Wr P o j e ss):∀{i f:Nat} {q:Int} {s:List Int},o=some i->P[e]? =some (q,(i:Int))->Wr P none e f s->Wr P (some i) j f (ss++s):=by
 induction h using Wr.ind with
 |fin _=>intro i f q s e;cases e
 |his _=>intro i f q s e;cases e
 |box _ _ _ _ _ _=>intro i f q s e;cases e
 |nil=>intro i f q s e h1 h2;cases e;have:=Wr.cons h1 h2 .nil;simpa using this
 |cons g1 g2 _ _ ih=>intro i f q s e h1 h2;cases e;rw[List.append_assoc];exact .cons g1 g2 (ih rfl h1 h2)
theorem Mq.byte{s:List Int}(h:Mq s):∀x∈s,0<=x/\x<256:=by
 cases h using Mq.ind with
 |ev h1 h2=>unfold bR at h2;simp at h2;intro x hx;simp at hx;omega
 |tm h2 h3=>unfold bR at h2;unfold eI at h3;simp at h2 h3;intro x hx;simp at hx;omega
 |vr h1 h2 h3=>unfold gw at h2;unfold eI at h3;simp at h2 h3;intro x hx;simp at hx;omega
theorem ic.byte{s:List Int}(h:ic s):∀x∈s,0<=x/\x<256:=by
 induction h using Et.ind with
 |nil=>intro x hx;cases hx
 |cons ha _ ih=>intro x hx;rcases List.mem_append.1 hx with h|h
                ·exact ha.byte x h
                exact ih x h
theorem IA.byte{s:List Int}(h:IA s):∀x∈s,0<=x/\x<256:=by
 cases h using IA.ind with
 |none=>intro x hx;cases hx
 |some h1 h2 h3=>unfold gw at h1;unfold me at h2;unfold eI at h3;simp at h1 h2 h3;intro x hx;simp at hx;omega
theorem GS.byte{n:Nat}(hn:n<=16){s:List Int}(h:GS n s):∀x∈s,0<=x/\x<256:=by
 cases h using GS.ind with
 |tr h1 h2 h3 h4=>
  unfold Vd at h1;unfold TaT at h4;intro x hx;simp at hx
  rcases hx with rfl|rfl|h|h|rfl|rfl
  ·omega
  ·omega
  ·exact h2.byte x h
  ·exact h3.byte x h
  ·omega
  omega
 |bl hb h3=>?_
 intro x hx;simp at hx
 rcases hx with rfl|h|rfl
 ·omega
 ·exact h3.byte x h
 omega
theorem vB.byte{n:Nat}(hn:n<=16){s:List Int}(h:vB n s):∀x∈s,0<=x/\x<256:=by
 induction h using Et.ind with
 |nil=>intro x hx;cases hx
 |cons ha _ ih=>intro x hx;rcases List.mem_append.1 hx with h|h
                ·exact ha.byte hn x h
                exact ih x h
theorem Wr.byte(hn:P.length<=16){o:Option Nat}{i e:Nat}{s:List Int}(h:Wr P o i e s):∀x∈s,0<=x/\x<256:=by
 induction h using Wr.ind with
 |fin h1=>have:=(List.getElem?_eq_some_iff.1 h1).1;intro x hx;simp at hx;omega
 |his h1=>have:=(List.getElem?_eq_some_iff.1 h1).1;intro x hx;simp at hx;omega
 | @box i e k p a ks b h1 h2 h3 h4 h5 ih=>
   have:=(List.getElem?_eq_some_iff.1 h1).1;intro x hx;simp only[List.mem_append,List.mem_cons,List.not_mem_nil,or_false]at hx
   rcases hx with(h|h)|h|h|h|h
   ·split at h<;>omega
   ·omega
   ·exact h3.byte hn x h
   ·exact ih x h
   ·exact h4.byte hn x h
   split at h<;>omega
 |nil=>intro x hx;cases hx
 |cons _ _ _ i1 i2=>intro x hx;rcases List.mem_append.1 hx with h|h
                    ·exact i1 x h
                    exact i2 x h
end
end Ch
section
variable {w:World} {B b:Nat} {lv:Value} {n a:Nat} {P:List (Int×Int)} {room:Nat} {pv:Value}
theorem Mk.row(h:Mk w B b lv n a P room pv)(hP:1<=P.length):∃g cap,pv= .slice (some ⟨g,0,none⟩) P.length cap:=by
 rcases h.pts.2 with⟨e1,e2⟩|⟨g,cap,_,e1,_⟩
 ·omega
 exact⟨g,cap,e1⟩
theorem Mk.part{g cap:Nat}(h:Mk w B b lv n a P room (.slice (some ⟨g,0,none⟩) P.length cap)){k:Nat}{q p:Int}(hk:P[k]? =some (q,p)):
 w.cell? ⟨g,k*2,none⟩=some (.int .i64 q)/\w.cell? ⟨g,k*2+1,none⟩=some (.int .i64 p):=by
 have hlt:=(List.getElem?_eq_some_iff.1 hk).1;have h2:=Bu P k q p hk;exact⟨by rw[h.pts.cellAt _ (by omega)];exact h2.1,by rw[h.pts.cellAt _ (by omega)];exact h2.2⟩
end
def WrQ(w w':World)(B b:Nat)(lv:Value)(n a:Nat)(P:List (Int×Int))(room:Nat)(pv:Value)(i e:Nat)(x:Ending):Prop:=
 ∃(L:List Int) (a' room':Nat),x= .returned (.string (strOfNums L))/\Wr P none i e L/\a'<=a+110*(e-i)/\room'<=room/\L.length+room'<=room+3*(e-i)/\Mk w' B b lv n a' P room' pv/\Below B w w'
def WriteAt(B b:Nat)(lv:Value)(n:Nat)(P:List (Int×Int))(pv:Value)(f:Nat):Prop:=∀(w:World) (a room i e:Nat),e-i<=f->Sh P none i e->e<=P.length->
 (∀(k:Nat) (q p:Int),e<=k->P[k]? =some (q,p)->∀c:Nat,p=(c:Int)->c<i\/e<=c)->Mk w B b lv n a P room pv->a+110*(e-i)<=500000->room<=1000->
 Calls prog 46 #[.pointer (some ⟨b,0,none⟩),.int .i64 i] w λx w'=>WrQ w w' B b lv n a P room pv i e x
structure YY(w wr:World)(B b:Nat)(lv:Value)(n a:Nat)(P:List (Int×Int))(room:Nat)(pv:Value)(i e j c:Nat)(S:List Int)(a' room':Nat):Prop where
 txt:Wr P (some i) (i+1) c S
 sh:Sh P (some i) c e
 jc:j<=c\/c=e
 no:∀(k:Nat) (q p:Int),j<=k->k<c->P[k]? =some (q,p)->p≠(i:Int)
 cnt:a'<=a+110*(c-(i+1))
 rm:room'<=room
 len:S.length+room'<=room+3*(c-(i+1))
 Ms:Mk wr B b lv n a' P room' pv
 mY:Below B w wr
 lo:i+1<=c
theorem YY.hit{w wr:World}{B b:Nat}{lv:Value}{n a:Nat}{P:List (Int×Int)}{room:Nat}{pv:Value}{i e j c:Nat}{S:List Int}{a' room':Nat}(h:YY w wr B b lv n a P room pv i e j c S a' room')
 (hout:∀(k:Nat) (q p:Int),e<=k->P[k]? =some (q,p)->∀c:Nat,p=(c:Int)->c<i\/e<=c) (hie:i<e) {q:Int} (hj:P[j]? =some (q,(i:Int))):
 ∃e1,c=j/\j<e1/\e1<=e/\Sh P none j e1/\Sh P (some i) e1 e:=by
 have hle:=h.sh.le.1
 have hje:j<e:=by
  by_cases x:j<e
  ·exact x
  have:=hout j q _ (by omega) hj i rfl;omega
 have hjc:c=j:=by
  rcases h.jc with x|x
  ·by_cases y:j<c
   ·exact absurd rfl (h.no j q _ (by omega) y hj)
   omega
  by_cases y:j<c
  ·exact absurd rfl (h.no j q _ (by omega) y hj)
  omega
 subst hjc
 rcases h.sh.within with x|⟨_,_,g1,g3,g4⟩
 ·omega
 exact⟨_,rfl,g3.le.2 rfl,g4.le.1,g3,g4⟩
theorem YY.miss{w wr:World}{B b:Nat}{lv:Value}{n a:Nat}{P:List (Int×Int)}{room:Nat}{pv:Value}{i e j c:Nat}{S:List Int}{a' room':Nat}(h:YY w wr B b lv n a P room pv i e j c S a' room')
 {q p:Int} (hj:P[j]? =some (q,p)) (hp:p≠(i:Int)):YY w wr B b lv n a P room pv i e (j+1) c S a' room':=by
 refine⟨h.txt,h.sh,?_,λk q p h1 h2 h3=>h.no k q p (by omega) h2 h3,h.cnt,h.rm,h.len,h.Ms,h.mY,h.lo⟩
 rcases h.jc with x|x
 ·by_cases y:j<c
  ·exact Or.inl y
  have:c=j:=by omega
  subst this
  right
  rcases h.sh.within with x|⟨_,_,g1,_⟩
  ·exact x.symm
  rw[g1]at hj;simp at hj;exact absurd hj.2.symm hp
 exact Or.inr x
theorem YY.more{w wr w2:World}{B b:Nat}{lv:Value}{n a:Nat}{P:List (Int×Int)}{room:Nat}{pv:Value}{i e j e1:Nat}{S T:List Int}{a' room' a2 yX:Nat}(h:YY w wr B b lv n a P room pv i e j j S a' room')
 {q:Int} (hj:P[j]? =some (q,(i:Int))) (h1:Sh P none j e1) (h2:Sh P (some i) e1 e) (hT:Wr P none j e1 T) (ha:a2<=a'+110*(e1-j)) (hr:yX<=room') (hl:T.length+yX<=room'+3*(e1-j))
 (hM:Mk w2 B b lv n a2 P yX pv) (hB:Below B wr w2):YY w w2 B b lv n a P room pv i e (j+1) e1 (S++T) a2 yX:=by
 have l1:=h1.le.2 rfl;have:=h.lo;have:=h.cnt;have:=h.len;have:=h.rm;refine⟨h.txt.snoc rfl hj hT,h2,Or.inl (by omega),λk q p x1 x2 x3=>?_,by omega,by omega,by simp only[List.length_append];omega,hM,h.mY.trans hB,by omega⟩
 rcases h1.par k q p (by omega) x2 x3 with⟨_,y⟩|⟨c,y,_⟩|⟨m,y1,y2,_⟩
 ·omega
 ·cases y
 omega
section
variable {B b:Nat} {lv:Value} {n:Nat} {P:List (Int×Int)} {pv:Value}
theorem BA(x8:P.length<=16)(f:Nat)(ih:∀g,f=g+1->WriteAt B b lv n P pv g):WriteAt B b lv n P pv f:=by
 intro w a room i e hf hs he hout hM ha hroom;have hie:=hs.le.2 rfl;obtain⟨g,cap,rfl⟩:=hM.row (by omega)
 obtain⟨q,p,hi,hcase⟩:∃q p,P[i]? =some (q,p)/\((q=4/\e=i+1)\/(q=5/\e=i+1)\/((q=1\/q=2\/q=3)/\Sh P (some i) (i+1) e)):=by
  obtain⟨q,p,h1,⟨h2,rfl⟩|⟨h2,h3⟩⟩:=hs.whole
  ·refine⟨_,_,h1,?_⟩
   rcases h2 with rfl|rfl|rfl
   ·exact Or.inr (Or.inr ⟨Or.inl rfl,.nil⟩)
   ·exact Or.inl ⟨rfl,rfl⟩
   exact Or.inr (Or.inl ⟨rfl,rfl⟩)
  exact⟨_,_,h1,Or.inr (Or.inr ⟨by omega,h3⟩)⟩
 have hil:(i:Int)<(P.length:Int):=by omega
 have E0:=hid (oA w i (by omega))
 go_enter func46,ntmps46
 go_wp2_with fail
 refine hm E0 ?_;rintro x w1 ⟨rfl,K1⟩;have B1:=aG K1 hM.pd;replace hM:=hM.ai K1;have c2:=hM.c2;have d0:=(hM.part hi).1;have HI:=hid hi;clear E0 K1 hi
 rcases hcase with⟨rfl,rfl⟩|⟨rfl,rfl⟩|⟨hq,hS⟩
 ·have h1:∀w',Sem.run prog (Op.stringOp BinOp.add ⟨#[60]⟩ (strOfNums [65+(i:Int)])) w'= .ok (.string (strOfNums [60,65+(i:Int)])) w':=bw [60] [65+(i:Int)] [60,65+(i:Int)] rfl (by simp)
  have h2:∀w',Sem.run prog (Op.stringOp BinOp.add (strOfNums [60,65+(i:Int)]) ⟨#[62]⟩) w'= .ok (.string (strOfNums [60,65+(i:Int),62])) w':=bw [60,65+(i:Int)] [62] [60,65+(i:Int),62] rfl (by simp);have HM:=hid (ae hM B1);clear hM B1 hs hout ih;go_wp2;go_ret;exact⟨_,a,room,rfl,.fin HI.out,by omega,by omega,by simp;omega,HM.out.1,HM.out.2⟩
 ·have h1:∀w',Sem.run prog (Op.stringOp BinOp.add ⟨#[42]⟩ (strOfNums [65+(i:Int)])) w'= .ok (.string (strOfNums [42,65+(i:Int)])) w':=bw [42] [65+(i:Int)] [42,65+(i:Int)] rfl (by simp)
  have HM:=hid (ae hM B1);clear hM B1 hs hout ih;go_wp2;go_ret;exact⟨_,a,room,rfl,.his HI.out,by omega,by omega,by simp;omega,HM.out.1,HM.out.2⟩
 have q4:¬q=4:=by omega
 have q5:¬q=5:=by omega
 have E1:=hid (Bw w1 hM (by omega) x8 (by omega) hroom);have HS:=hid (ae hS hout);have IH:=hid ih;clear hM hS hs hout ih
 go_wp2_with fail
 refine hm E1 ?_;rintro x w2 ⟨L2,a2,yX,rfl,hL2,hr2,ha2,M2,B2⟩;have h1:∀w',Sem.run prog (Op.stringOp BinOp.add (strOfNums [65+(i:Int)]) (strOfNums L2)) w'= .ok (.string (strOfNums ((65+(i:Int))::L2))) w':=bw [65+(i:Int)] L2 ((65+(i:Int))::L2) rfl (by simp;omega);have HL2:=hid hL2;have H0:Hid (YY w w2 B b lv n a2 P yX (.slice (some ⟨g,0,none⟩) P.length cap) i e (i+1) (i+1) [] a2 yX):=hid ⟨.nil,HS.out.1,Or.inl (Nat.le_refl _),λk q p x1 x2=>by omega,by omega,by omega,by simp,M2,B1.trans B2,Nat.le_refl _⟩;clear E1 M2 B1 B2 hL2 c2 d0
 go_wp2_with fail
 go_loopw [6,7] (λs jv wr=>∃(S:List Int) (j:Nat),s= .string (strOfNums ((65+(i:Int))::(L2++S)))/\jv= .int .i64 j/\i+1<=j/\j<=P.length/\Hid (∃c a' room',YY w wr B b lv n a2 P yX (.slice (some ⟨g,0,none⟩) P.length cap) i e j c S a' room')) (λ_ jv _=>P.length-(intOf jv).toNat)
 case atStart=>exact⟨[],i+1,by simp,by go_num,by omega,by omega,hid ⟨_,_,_,H0.out⟩⟩
 case round=>
  obtain⟨S,j,rfl,rfl,hj1,hj2,HW⟩:=hrel;obtain⟨c,a3,aby,W⟩:=HW.out;clear HW H0;have c2:=W.Ms.c2
  by_cases hjl:j<P.length
  ·have AK:(j:Int)<(P.length:Int):=by omega
   obtain⟨qj,pj,hj⟩:∃qj pj,P[j]? =some (qj,pj):=⟨_,_,List.getElem?_eq_getElem hjl⟩
   have d1:=(W.Ms.part hj).2
   by_cases hp:pj=(i:Int)
   ·subst hp
    obtain⟨e1,rfl,k1,k2,k3,k4⟩:=W.hit HS.out.2 hie hj;have t1:=W.lo;have t2:=W.cnt;have t3:=W.rm;have t4:=W.len
    have E2:=hid (IH.out (f-1) (by omega) wr a3 aby c e1 (by omega) k3 (by omega) (λk q p x1 x2 m x3=>by
     by_cases y:k<e
     ·rcases k4.par k q p x1 y x2 with⟨z,_⟩|⟨z,z1,z2⟩|⟨z,z1,z2,z3⟩
      ·cases z
      ·cases z1;left;omega
      right;omega
     have:=HS.out.2 k q p (by omega) x2 m x3;omega) W.Ms (by omega) (by omega))
    have HJ:=hid hj;have HK:=hid (ae k3 k4);have HW:=hid W;clear W hj k3 k4
    go_wp2_with fail
    refine hm E2 ?_;rintro x w4 ⟨T,a4,al2,rfl,hT,De,hr4,hl4,M4,B4⟩;have W2:=hid (HW.out.more HJ.out HK.out.1 HK.out.2 hT De hr4 hl4 M4 B4);have hadd:∀w',Sem.run prog (Op.stringOp BinOp.add (strOfNums ((65+(i:Int))::(L2++S))) (strOfNums T)) w'= .ok (.string (strOfNums ((65+(i:Int))::(L2++(S++T))))) w':=bw ((65+(i:Int))::(L2++S)) T ((65+(i:Int))::(L2++(S++T))) (by simp) (by simp;omega);clear E2 hT M4 B4 HW HJ HK c2 d1
    go_wp2_with fail
    go_roundw
    case rel=>exact⟨S++T,c+1,rfl,by go_num,by omega,by omega,hid ⟨_,_,_,W2.out⟩⟩
    case measure=>simp[intOf];omega
   have HW:=hid (W.miss hj hp);clear W hj
   go_wp2_with fail
   go_roundw
   case rel=>exact⟨S,j+1,rfl,by go_num,by omega,by omega,hid ⟨_,_,_,HW.out⟩⟩
   case measure=>simp[intOf];omega
  have AK:¬(j:Int)<(P.length:Int):=by omega
  have hce:c=e:=by
   rcases W.jc with x|x
   ·have:=W.sh.le.1;omega
   exact x
  subst hce;have t1:=W.lo;have t2:=W.cnt;have t3:=W.rm;have t4:=W.len;have E3:=hid (Bw wr W.Ms (by omega) x8 (by omega) (by omega));have HW:=hid W;clear W IH
  go_wp2_with fail
  refine hm E3 ?_;rintro x w5 ⟨L5,a5,abz,rfl,hL5,jV,ha5,M5,B5⟩;have hadd:∀w',Sem.run prog (Op.stringOp BinOp.add (strOfNums ((65+(i:Int))::(L2++S))) (strOfNums L5)) w'= .ok (.string (strOfNums ((65+(i:Int))::(L2++(S++L5))))) w':=bw ((65+(i:Int))::(L2++S)) L5 ((65+(i:Int))::(L2++(S++L5))) (by simp) (by simp;omega);have c5:=M5.c2;have d5:=(M5.part HI.out).1;have HM:=hid (ae M5 (HW.out.mY.trans B5));have HL5:=hid hL5;clear E3 M5 B5 hL5 c2
  by_cases q3:q=3
  ·subst q3
   have h2:∀w',Sem.run prog (Op.stringOp BinOp.add ⟨#[91]⟩ (strOfNums ((65+(i:Int))::(L2++(S++L5))))) w'= .ok (.string (strOfNums (91::(65+(i:Int))::(L2++(S++L5))))) w':=bw [91] _ (91::(65+(i:Int))::(L2++(S++L5))) rfl (by simp;omega);have h3:∀w',Sem.run prog (Op.stringOp BinOp.add (strOfNums (91::(65+(i:Int))::(L2++(S++L5)))) ⟨#[93]⟩) w'= .ok (.string (strOfNums (91::(65+(i:Int))::(L2++(S++(L5++[93])))))) w':=bw (91::(65+(i:Int))::(L2++(S++L5))) [93] (91::(65+(i:Int))::(L2++(S++(L5++[93])))) (by simp) (by simp;omega);go_wp2;go_ret;exact⟨_,a5,abz,rfl,.box HI.out (by omega) HL2.out HL5.out HW.out.txt,by omega,by omega,by simp;omega,HM.out.1,HM.out.2⟩
  have h2:∀w',Sem.run prog (Op.stringOp BinOp.add ⟨#[40]⟩ (strOfNums ((65+(i:Int))::(L2++(S++L5))))) w'= .ok (.string (strOfNums (40::(65+(i:Int))::(L2++(S++L5))))) w':=bw [40] _ (40::(65+(i:Int))::(L2++(S++L5))) rfl (by simp;omega);have h3:∀w',Sem.run prog (Op.stringOp BinOp.add (strOfNums (40::(65+(i:Int))::(L2++(S++L5)))) ⟨#[41]⟩) w'= .ok (.string (strOfNums (40::(65+(i:Int))::(L2++(S++(L5++[41])))))) w':=bw (40::(65+(i:Int))::(L2++(S++L5))) [41] (40::(65+(i:Int))::(L2++(S++(L5++[41])))) (by simp) (by simp;omega);go_wp2;go_ret;have HB:=Wr.box HI.out (by omega) HL2.out HL5.out HW.out.txt;rw[if_neg q3,if_neg q3]at HB;exact⟨_,a5,abz,rfl,HB,by omega,by omega,by simp;omega,HM.out.1,HM.out.2⟩
theorem NG(x8:P.length<=16):∀f,WriteAt B b lv n P pv f:=by
 intro f
 induction f with
 |zero=>exact BA x8 0 (λg h=>by omega)
 |succ f ih=>exact BA x8 (f+1) (λg h=>by obtain rfl:g=f:=by omega
                                         exact ih)
end
def ac3(w w':World)(x:Ending):Prop:=
 ∃(L:List Int) (P:List (Int×Int)) (pv:Value),x= .returned (.tuple #[.string (strOfNums L),pv])/\w'.ownsRow w.heap.size 113 2 pv P.length (ij P)/\Below w.heap.size w w'/\Du P/\Wr P none 0 P.length L/\L.length<=215
section
variable (w:World)
theorem nO{lv:Value}{n:Nat}(hI:qs w w.heap.size lv n)(hn:n<=maxLen):
 Calls prog 26 #[lv] w λx w'=>ac3 w w' x:=by
 have K0:Kp (λ_=>False) w (w.alloc (.cells #[lv,.int .i64 0,.slice none 0 0,.int .i64 170] 102)):=(Kp.refl _ _).alloc _
 have M0:Mk (w.alloc (.cells #[lv,.int .i64 0,.slice none 0 0,.int .i64 170] 102)) w.heap.size w.heap.size lv n 0 [] 170 (.slice none 0 0):=
  ⟨Nat.le_refl _,heap_alloc_new w _,World.ownsRow_nil _ _ _ _,hI.keep (aG K0 (Nat.le_refl _)),hn⟩
 have B0:=aG K0 (Nat.le_refl w.heap.size);obtain⟨ao,cap,rfl⟩:=hI.len
 have E1:Hid (Calls prog 45 #[.pointer (some ⟨w.heap.size,0,none⟩),.int .i64 (-1),.int .i64 0] _ λx w'=>x= .returned (.tuple #[])/\GrP _ w' w.heap.size w.heap.size (.slice ao n cap) n 0 [] 170 (-1) 4):=
  hid (SR 4 _ 0 [] _ (-1) 0 rfl M0 (by simp) (by simp))
 clear K0 M0 hI
 go_enter func26,ntmps26
 go_wp2_with fail
 refine hm E1 ?_;rintro x w2 ⟨rfl,a2,P,pv,G⟩;have hlen:=G.len;have hlt:=G.lt;have hcnt:=G.cnt;simp only[List.length_nil]at hlen hlt hcnt;have hB2:=B0.trans G.mY
 have E2:Hid (Calls prog 46 #[.pointer (some ⟨w.heap.size,0,none⟩),.int .i64 0] w2 λx w'=>WrQ w2 w' w.heap.size w.heap.size (.slice ao n cap) n a2 P 170 pv 0 P.length x):=
  hid (NG (by omega) P.length w2 a2 170 0 P.length (by omega) G.sh (Nat.le_refl _) (λk q p h1 h2=>by have:=(List.getElem?_eq_some_iff.1 h2).1;omega) G.Ms (by omega) (by omega))
 have hpt:Du P:=G.sh.ajv (by omega) (by
  obtain⟨k,e1,e2,e3⟩:=G.hd;have:=e3 ⟨rfl,rfl⟩
  exact⟨k,e1,by omega⟩)
 have HP:=hid (ae hpt hB2);clear E1 G hpt hB2 B0
 go_wp2_with fail
 refine hm E2 ?_;rintro x w3 ⟨L,a3,aby,rfl,hW,_,hr3,hl3,M3,B3⟩;have c2:=M3.c2;have HM:=hid (ae M3 B3);have HW:=hid hW;clear E2 M3 B3 hW
 go_upto_region 4 with(fail)
 go_quiet (fail)
 go_wp2;refine bodyPost_ret (results_tmp2 rfl _ _ _) rfl ?_;have KD:Kp (λ_=>False) w3 (w3.drewN nq):=(Kp.refl _ _).drewN nq;exact⟨L,P,pv,rfl,KD.owns HM.out.1.pts (λ_ _ x=>x),(HP.out.2.trans HM.out.2).trans (aG KD HM.out.1.pd),HP.out.1,HW.out,by omega⟩
end
namespace Ch
theorem qB{P:List (Int×Int)}{L:List Int}(hP:Du P)(hW:Wr P none 0 P.length L)(hL:L.length<=215):∃ol,qw (strOfNums L) ol/\zF P ol:=by
 have hs:(strOfNums L).size=L.length:=strOfNums_size L;obtain⟨_,ol,hr,ho⟩:=Nv hP hW (ZU (hW.byte hP.len)) hs.symm (by omega);refine⟨ol,Wz hr (λk=>?_),ho⟩;unfold dN
 cases q:ol.ag[k]? with
 |none=>simp
 |some s=>?_
 have h1:=(ho.at_ k s q).2;have h2:=(List.getElem?_eq_some_iff.1 q).1;have:=hP.len;have:=ho.len;simp only;omega
def rn(n:Nat)(c:Int):Int:=if bx c then 65+(c-65+(n:Int)) % 26 else c
section
variable {n:Nat}
def mSt(n:Nat)(s:St):St:={s with name:=rn n s.name}
def mS(n:Nat)(ss:List St):List St:=ss.map (mSt n)
structure Ren(n:Nat)(t t':ByteArray):Prop where
 size:t'.size=t.size
 pk:∀p,af t' p=rn n (af t p)
end
end Ch
def SU(w:World)(g:Nat)(l:List Int):Prop:=∃C:Array Value,w.heap[g]? =some (.cells C 5 (C.size,C.size+1))/\l.length<=C.size/\∀(j:Nat) (x:Int),l[j]? =some x->C[j]? =some (Value.int .u8 x)
section
variable {w:World} {g:Nat} {l:List Int}
theorem SU.cell(h:SU w g l){j:Nat}{x:Int}(hj:l[j]? =some x):w.cell? ⟨g,j,none⟩=some (.int .u8 x):=by
 obtain⟨C,h1,_,h3⟩:=h;rw[World.cell?,h1];exact h3 j x hj
theorem SU.free(h:SU w g l){j:Nat}(hj:j<l.length):w.frozen? ⟨g,j,none⟩=false:=by
 obtain⟨C,h1,h2,_⟩:=h;simp[World.frozen?,h1];omega
theorem SU.set(h:SU w g l){j:Nat}(y:Int):SU (w.setCell ⟨g,j,none⟩ (.int .u8 y)) g (l.set j y):=by
 obtain⟨C,h1,h2,h3⟩:=h;refine⟨C.setIfInBounds j (.int .u8 y),?_,by simpa using h2,λk x hk=>?_⟩
 ·rw[ah _ h1];simp
 by_cases e:j=k
 ·subst e
  have hl:=(List.getElem?_eq_some_iff.1 hk).1;rw[List.length_set]at hl;rw[List.getElem?_set_self hl]at hk;simp at hk;subst hk;rw[Array.getElem?_setIfInBounds_self_of_lt (by omega)]
 rw[List.getElem?_set_ne e]at hk;rw[Array.getElem?_setIfInBounds_ne e];exact h3 k x hk
theorem SU.new(w:World)(s:ByteArray):SU (Lib.bytesWorld w 5 s) w.heap.size (dW s):=by
 refine⟨_,Lib.bytesWorld_at_new w 5 s,?_,λj x hj=>?_⟩
 ·simp[Lib.bytesCells,bz]
 have hl:=(List.getElem?_eq_some_iff.1 hj).1;rw[bz]at hl;have:=Lib.bytesWorld_cell w 5 s j hl;rw[World.cell?,Lib.bytesWorld_at_new]at this
 have e:x=((s.data.toList.getD j 0).toNat:Int):=by
  unfold dW at hj;rw[List.getElem?_map]at hj
  have h2:s.data.toList[j]? =some (s.data.toList.getD j 0):=by simp[List.getD,hl]
  rw[h2]at hj;simpa using hj.symm
 rw[e];exact this
end
end Go.Proofs.YtnlbchmfcebeeaaGreat
