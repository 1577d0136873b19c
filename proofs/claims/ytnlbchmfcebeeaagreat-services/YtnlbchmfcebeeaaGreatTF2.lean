import Derived.Test.YtnlbchmfcebeeaaGreatTE1
import Derived.Lib.AppendStr
set_option maxHeartbeats 12800000
set_option maxRecDepth 100000
namespace Go.Proofs.YtnlbchmfcebeeaaGreat
open Go.Proofs.Tryz Ch
open Go.RowKit
section
variable (w:World) (mb ob po:Nat) (s:Sd) (qv ov:Value) (ol:Ol)
theorem KY(v:Value)(list:List Int)(t:Nat)(h:vj w v list)(a8:wZ ol list)(hl:list.length<=1000)(ht:t<ol.cW.length)(hm:iW w mb ob po s qv ov)(hw:s.Wf)(hp:Pl w ob po ol)(aI:ol.Ok):
 Calls prog 130 #[.pointer (some ⟨mb,0,none⟩),v,.int .i64 t] w λx w'=>∃v',x= .returned v'/\vj w' v' (lD ol s list t)/\Kp (λ_=>False) w w':=by
 obtain⟨i0,hi,a5,a6,a7⟩:=bY lX;obtain⟨ao,cap,rfl⟩:=h.len;have E0:=af (uA w mb ob po s qv ov ol t ht hm hw hp aI);have am:=ow ol s t
 go_enter func130,ntmps130
 go_wp2_with fail
 refine b9 E0 ?_;rintro x w1 ⟨rfl,K1⟩;have E:=an w1 (.cells fY 91);have a2:=kP.ofRow (ax (w1.alloc (.cells fY 91)) w1.heap.size fY (kB (Ch.leaves ol s t)) 91 (0,0) E);have K2:Kp _ _ ((w1.alloc (.cells fY 91)).setRow w1.heap.size (kB (Ch.leaves ol s t))):=(K1.alloc _).setRow (λx=>by have:=K1.size;omega) _;have a9:iW _ _ _ _ _ _ _:=ey.az hm K2 (λx=>x);have ba:=hp.az K2 (λ_ _ _ _ _ x=>x);have h2:=h.az K2 (λ_ _ _ x=>x);clear hm hp h K1 E0;have ad:=lR am;have vm:=kU am;have aa:=ox (Ch.leaves ol s t);generalize ap:kB (Ch.leaves ol s t)=LV at*
 go_wp2_with (refine cj LV E ad vm.symm aa ?_)
 generalize (w1.alloc (.cells fY 91)).setRow w1.heap.size LV=w2 at*;generalize w1.heap.size=L1 at*;clear E ad vm aa ap;have bc:=a2.lt
 go_loopw [8,9] (λkv i wr=>∃(k:Nat) (U:List Int),i= .int .i64 k/\k<=list.length/\wr.ownsRow w2.heap.size 3 1 kv U.length (bI U)/\U.length<=k/\Hid (gH ol s t list []=gH ol s t (list.drop k) U)/\Kp (λ_=>False) w2 wr) (λ_ i _=>list.length-(intOf i).toNat)
 case atStart=>exact⟨0,[],rfl,aG _,bT _ _ _ _,aC _,af rfl,Kp.refl _ _⟩
 case round=>
  obtain⟨k,U,rfl,hk,D,bk,HE,O⟩:=hrel;have F:iW _ _ _ _ _ _ _:=ey.az a9 O (λx=>x);have G:=ba.az O (λ_ _ _ _ _ x=>x);have hr:=h2.az O (λ_ _ _ x=>x);have J:=a2.az O (λx=>x)
  by_cases aj:k<list.length
  ·have bb:(k:Int)<(list.length:Int):=by omega
   obtain⟨a,ha⟩:∃s,list[k]? =some s:=⟨_,ar aj⟩
   obtain⟨g,aS,hg,a0⟩:=hr.at_ ha;simp only[aK,bS]at hg;obtain⟨rfl,rfl⟩:=hg
   have ed:list.drop k=a::list.drop (k+1):=by
    rw[eZ aj];congr 1;exact(aJ.1 ha).2
   obtain⟨be,bi⟩:=a8 a (aM ha)
   obtain⟨j,rfl⟩:∃j:Nat,a=j:=⟨a.toNat,by omega⟩
   have hj:j<ol.cW.length:=by omega
   have E1:=af (uA wr mb ob po s qv ov ol j hj F hw G aI);have aO:=ow ol s j
   have step:gH ol s t (list.drop k) U=if Ch.meets (Ch.leaves ol s t) (Ch.leaves ol s j)then(if Ch.within ol t j then gH ol s t (list.drop (k+1)) U else none)else gH ol s t (list.drop (k+1)) (U++[(j:Int)]):=by
    rw[ed];simp only[gH,db]
   have HX:=af (ae F (ae G (ae D (ae hr (ae J (ae O step))))));have HA:=af ha;clear F G D hr J O step ed ha
   go_wp2_with fail
   refine b9 E1 ?_;rintro x w3 ⟨rfl,K3⟩;obtain⟨F,G,D,hr,J,O,step⟩:=HX.out;have E:=an w3 (.cells fY 91);have a1:=kP.ofRow (ax (w3.alloc (.cells fY 91)) w3.heap.size fY (kB (Ch.leaves ol s j)) 91 (0,0) E);have K4:Kp _ _ ((w3.alloc (.cells fY 91)).setRow w3.heap.size (kB (Ch.leaves ol s j))):=(K3.alloc _).setRow (λx=>by have:=K3.size;omega) _;have ad:=lR aO;have vm:=kU aO;have aa:=ox (Ch.leaves ol s j);have HX:=af (ae F (ae G (ae D (ae hr (ae J (ae O step))))));clear F G D hr J O step K3 E1;generalize ap:kB (Ch.leaves ol s j)=LV at*
   go_wp2_with (refine cj LV E ad vm.symm aa ?_)
   generalize (w3.alloc (.cells fY 91)).setRow w3.heap.size LV=w4 at*;generalize w3.heap.size=L4 at*;clear E ad vm aa ap;obtain⟨F,G,D,hr,J,O,step⟩:=HX.out;have Tw:iW _ _ _ _ _ _ _:=ey.az F K4 (λx=>x);have xB:=G.az K4 (λ_ _ _ _ _ x=>x);have I:=hr.az K4 (λ_ _ _ x=>x);have K_:=J.az K4 (λx=>x);have Z:=K4.owns D (λ_ _ x=>x);have Y:=O.trans K4;obtain⟨g',aS,a3,a4⟩:=I.at_ HA.out;simp only[aK,bq,dH,bS,dx]at a3;obtain⟨rfl,rfl⟩:=a3;have E2:=af (we w4 L1 0 [] (Ch.leaves ol s t) [] 91 L4 0 [] (Ch.leaves ol s j) [] 91 K_ am rfl a1 aO rfl);have E3:=af (GR w4 mb ob po s qv ov ol t j ht hj Tw xB aI);have HK:=af (ae Z (ae I (ae Y step)));clear Tw xB I K_ Z Y F G D hr J O step HX K4 a1 a0
   cases q1:Ch.meets (Ch.leaves ol s t) (Ch.leaves ol s j)with
   |true=>
    rw[q1]at E2
    cases q2:Ch.within ol t j with
    |true=>
     rw[q2]at E3;have HF:=af (HE.out.trans (show _=gH ol s t (list.drop (k+1)) U by rw[HK.out.2.2.2,q1,q2];rfl))
     go_wp2_with fail
     refine b9 E2 ?_;rintro x w5 ⟨rfl,rfl⟩
     go_wp2_with fail
     refine b9 E3 ?_;rintro x w6 ⟨rfl,X⟩;obtain⟨Z,I,Y,step⟩:=HK.out;have Y1:=X.owns Z (λ_ _ x=>x);have Re:=Y.trans X;clear Z I Y step HK X E2 E3 a4;go_wp2
     go_roundw
     case rel=>exact⟨k+1,U,by go_num,by omega,Y1,by omega,HF,Re⟩
     case measure=>simp[intOf];omega
    |false=>?_
    rw[q2]at E3
    have HF:=af (show lD ol s list t=list by
     have e:=HE.out.trans (show _=none by rw[HK.out.2.2.2,q1,q2];rfl)
     unfold lD;rw[e])
    go_wp2_with fail
    refine b9 E2 ?_;rintro x w5 ⟨rfl,rfl⟩
    go_wp2_with fail
    refine b9 E3 ?_;rintro x w6 ⟨rfl,X⟩;obtain⟨Z,I,Y,step⟩:=HK.out;have vV:=I.az X (λ_ _ _ x=>x);have Re:=K2.trans (Y.trans X);clear Z I Y step HK X E2 E3 a4;go_wp2;go_ret;rw[HF.out];exact⟨_,rfl,vV,Re⟩
   |false=>?_
   rw[q1]at E2;have HF:=af (HE.out.trans (show _=gH ol s t (list.drop (k+1)) (U++[(j:Int)])by rw[HK.out.2.2.2,q1];rfl))
   go_wp2_with fail
   refine b9 E2 ?_;rintro x w5 ⟨rfl,rfl⟩;obtain⟨Z,I,Y,step⟩:=HK.out;clear I step HK E2 E3
   go_wp2_with (at_builtin;refine hJ _ rfl (.tmp 28) (.tmp 33) 38 rfl w2.heap.size 3 i0 (.int .i64 0) 1 8 underlying38 hi a5 a6 a7 rfl (by decide) _ _ _ rfl (Z.alloc _) ⟨w5.heap.size,0,none⟩ 1 1 [.int .i64 j] rfl rfl ?c1 ?c2 ?c3 ?c4 ?c5 ?_)
   case c1=>exact fy _ _ _
   case c2=>intro u hu;simp at hu;subst hu;rfl
   case c3=>unfold maxLen;omega
   case c4=>omega
   case c5=>have:=Y.size;simp;omega
   intro v6 w6 o6 g6 _;have X:=Kp.grown (Y.alloc _) g6 (λi hi aj=>by have:=(Z.lt i hi).1;omega);clear g6 Y Z a4;go_wp2
   go_roundw
   case rel=>exact⟨k+1,_,by go_num,by omega,by simpa[bI]using o6,by simp;omega,HF,X⟩
   case measure=>simp[intOf];omega
  have bm:¬(k:Int)<(list.length:Int):=by omega
  have HF:=af (show lD ol s list t=U++[(t:Int)]by
   have e:=HE.out.trans (show _=some (U++[(t:Int)])by rw[c_ (by omega)];rfl)
   unfold lD;rw[e])
  clear HE hr G F J
  go_wp2_with (at_builtin;refine hJ _ rfl (.tmp 44) (.tmp 46) 38 rfl w2.heap.size 3 i0 (.int .i64 0) 1 8 underlying38 hi a5 a6 a7 rfl (by decide) _ _ _ rfl (D.alloc _) ⟨wr.heap.size,0,none⟩ 1 1 [.int .i64 t] rfl rfl ?c1 ?c2 ?c3 ?c4 ?c5 ?_)
  case c2=>first|rfl|(intro u hu;simp at hu;subst hu;rfl)
  case c3=>first|(unfold maxLen;omega)|omega|(simp[maxLen];omega)
  case c4=>omega
  case c5=>have:=O.size;simp;omega
  intro v6 w6 o6 g6 _;have X:=Kp.grown (O.alloc _) g6 (λi hi aj=>by have:=(D.lt i hi).1;omega);have K7:=K2.trans X;clear g6 O D X;go_wp2;go_ret;rw[HF.out];exact⟨_,rfl,⟨_,by simpa[bI]using o6⟩,K7⟩
end
section
variable (w:World) (mb ob po:Nat) (s:Sd) (qv ov:Value) (ol:Ol)
theorem oy(trg:Int)(hm:iW w mb ob po s qv ov)(hw:s.Wf)(hp:Pl w ob po ol)(G:ol.Ok):
 Calls prog 80 #[.pointer (some ⟨mb,0,none⟩),.int .u8 trg] w λx w'=>∃v',x= .returned v'/\vj w' v' (Ch.choose ol s trg)/\Kp (λ_=>False) w w':=by
 have aS:=G.ai;have E0:=af (N7 w mb ob po s qv ov ol trg hm hw hp G);obtain⟨ad,aI⟩:=xO ol s trg;have HU:=af (show Ch.choose ol s trg=eV ol s (Ch.find ol s trg) []from rfl)
 go_enter func80,ntmps80
 go_wp2_with fail
 refine b9 E0 ?_;rintro x w1 ⟨fv,rfl,X,K1⟩
 have h1:vj _ _ _:=⟨_,X⟩
 have aj:iW _ _ _ _ _ _ _:=ey.az hm K1 (λx=>x);have am:=hp.az K1 (λ_ _ _ _ _ x=>x);clear X hm hp E0;generalize Ch.find ol s trg=list at*;obtain⟨ao,cap,rfl⟩:=h1.len
 go_wp2_with fail
 go_loopw [6,7] (λkv i wr=>∃(k:Nat) (D:List Int),i= .int .i64 k/\k<=list.length/\vj wr kv D/\D.length<=k/\wZ ol D/\Hid (eV ol s list []=eV ol s (list.drop k) D)/\Kp (λ_=>False) w1 wr) (λ_ i _=>list.length-(intOf i).toNat)
 case atStart=>exact⟨0,[],rfl,aG _,⟨0,bT _ _ _ _⟩,aC _,by intro n hn;simp at hn,af rfl,Kp.refl _ _⟩
 case round=>
  obtain⟨k,D,rfl,hk,E,a3,O,Y,J⟩:=hrel;have F:iW _ _ _ _ _ _ _:=ey.az aj J (λx=>x);have I:=am.az J (λ_ _ _ _ _ x=>x);have hr:=h1.az J (λ_ _ _ x=>x)
  by_cases U:k<list.length
  ·have aO:(k:Int)<(list.length:Int):=by omega
   obtain⟨a,Z⟩:∃s,list[k]? =some s:=⟨_,ar U⟩
   obtain⟨g,ap,hg,a0⟩:=hr.at_ Z;simp only[aK,bS]at hg;obtain⟨rfl,rfl⟩:=hg
   have ed:list.drop k=a::list.drop (k+1):=by
    rw[eZ U];congr 1;exact(aJ.1 Z).2
   obtain⟨a1,a2⟩:=ad a (aM Z)
   obtain⟨j,rfl⟩:∃j:Nat,a=j:=⟨a.toNat,by omega⟩
   have hj:j<ol.cW.length:=by omega
   have E1:=af (KY wr mb ob po s qv ov ol _ D j E O (by omega) hj F hw I G);have HF:=af (Y.out.trans (show _=eV ol s (list.drop (k+1)) (lD ol s D j)by rw[ed];simp only[eV,db]));have aa:=ys (s:=s) hj O;clear F I hr ed Z E Y
   go_wp2_with fail
   refine b9 E1 ?_;rintro x w3 ⟨v3,rfl,h3,K3⟩;have K4:=J.trans K3;clear E1 K3 J a0;go_wp2
   go_roundw
   case rel=>exact⟨k+1,_,by go_num,by omega,h3,by omega,aa.1,HF,K4⟩
   case measure=>simp[intOf];omega
  have a4:¬(k:Int)<(list.length:Int):=by omega
  have HF:=af (Y.out.trans (show _=D by rw[c_ (by omega)];rfl));have K2:=K1.trans J;clear Y hr I F;go_wp2;go_ret;rw[HU.out,HF.out];exact⟨_,rfl,E,K2⟩
end
section
variable (w:World) (mb ob po:Nat) (s:Sd) (qv ov:Value) (ol:Ol)
theorem DH(v:Value)(list:List Int)(h:vj w v list)(a3:wZ ol list)(hl:list.length<=1000)(hm:iW w mb ob po s qv ov)(hw:s.Wf)(hp:Pl w ob po ol)(a6:ol.Ok):
 Calls prog 131 #[.pointer (some ⟨mb,0,none⟩),v] w λx w'=>x= .returned (.agg (kB (cT ol s list)))/\Kp (λ_=>False) w w':=by
 obtain⟨ds,ad,kJ⟩:=GB;obtain⟨ao,cap,rfl⟩:=h.len;rw[show cT ol s list=rG ol s list fT from rfl];have K2:Kp (λ_=>False) w ((w.alloc (.cells fY 91)).alloc (.cells fY 91)):=((Kp.refl _ _).alloc _).alloc _
 have a8:((w.alloc (.cells fY 91)).alloc (.cells fY 91)).heap[w.heap.size]? =some (.cells fY 91):=by
  rw[cQ _ _ _ (by simp)];exact an _ _
 have a1:((w.alloc (.cells fY 91)).alloc (.cells fY 91)).heap[w.heap.size+1]? =_:=nV w _ _
 have bb:((w.alloc (.cells fY 91)).alloc (.cells fY 91)).heap.size=w.heap.size+2:=by simp
 have bk:=hm.lt;have a5:iW _ _ _ _ _ _ _:=ey.az hm K2 (λx=>x);have a7:=hp.az K2 (λ_ _ _ _ _ x=>x);have h2:=h.az K2 (λ_ _ _ x=>x);clear hp hm h
 go_enter func131,ntmps131
 go_wp2_with fail
 generalize ((w.alloc (.cells fY 91)).alloc (.cells fY 91))=w2 at*;have a2:kP _ _ _ fT _ _:=kP.ofRow a1
 have am:∀G T,w2.heap[w.heap.size+1]? =some (.cells G T (0,0))->T=91:=by
  intro G T h;rw[a1]at h;simp at h;exact h.2.symm
 go_loopw [6] (λi wr=>∃(k:Nat) (l:List Bool),i= .int .i64 k/\k<=list.length/\l.length=16/\Hid (rG ol s list fT=rG ol s (list.drop k) l)/\kP wr (w.heap.size+1) [] l [] 91/\Kp (λk=>k=w.heap.size+1) w2 wr) (λi _=>list.length-(intOf i).toNat)
 case atStart=>exact⟨0,fT,rfl,aG _,rfl,af rfl,a2,Kp.refl _ _⟩
 case round=>
  obtain⟨k,l,rfl,hk,O,HE,I,D⟩:=hrel;have U:iW _ _ _ _ _ _ _:=ey.az a5 D (λx=>by omega);have X:=a7.az D (λi G T hi hT x=>by subst x;have:=am _ _ hi;subst this;revert hT;unfold QY oT;decide);have hr:=h2.az D (λi G hi x=>by subst x;have:=am _ _ hi;revert this;decide);have Y:=D.at_ a8 (λx=>by omega);have KX:=K2.trans' D (λi hi x=>by omega)
  by_cases aj:k<list.length
  ·have ba:(k:Int)<(list.length:Int):=by omega
   obtain⟨a,ha⟩:∃s,list[k]? =some s:=⟨_,ar aj⟩
   obtain⟨g,a9,hg,a0⟩:=hr.at_ ha;simp only[aK,bS]at hg;obtain⟨rfl,rfl⟩:=hg
   have ed:list.drop k=a::list.drop (k+1):=by
    rw[eZ aj];congr 1;exact(aJ.1 ha).2
   obtain⟨bc,be⟩:=a3 a (aM ha)
   obtain⟨j,rfl⟩:∃j:Nat,a=j:=⟨a.toNat,by omega⟩
   have hj:j<ol.cW.length:=by omega
   have E1:=af (uA wr mb ob po s qv ov ol j hj U hw X a6);have Z:=ow ol s j;have HF:=af (HE.out.trans (show _=rG ol s (list.drop (k+1)) (Ch.join l (Ch.leaves ol s j))by rw[ed];simp only[rG,db]));have HX:=af (ae I D);clear U X hr ed ha HE I D KX Y
   go_wp2_with fail
   refine b9 E1 ?_;rintro x J ⟨rfl,K3⟩;obtain⟨I,D⟩:=HX.out
   have bm:w.heap.size+2<=J.heap.size:=by have:=K3.size;have:=D.size;omega
   have E:=an J (.cells fY 91);have aa:=kP.ofRow (ax (J.alloc (.cells fY 91)) J.heap.size fY (kB (Ch.leaves ol s j)) 91 (0,0) E);have K4:Kp _ _ ((J.alloc (.cells fY 91)).setRow J.heap.size (kB (Ch.leaves ol s j))):=(K3.alloc _).setRow (λx=>by have:=K3.size;omega) _;have aS:=lR Z;have vm:=kU Z;have aO:=ox (Ch.leaves ol s j);clear K3 E1 I D;generalize a4:kB (Ch.leaves ol s j)=LV at*
   go_wp2_with (refine cj LV E aS vm.symm aO ?_)
   generalize (J.alloc (.cells fY 91)).setRow J.heap.size LV=w4 at*;generalize J.heap.size=L4 at*;clear E aS vm aO a4;obtain⟨I,D⟩:=HX.out;have h4:=I.az K4 (λx=>x);have uS:=D.trans' K4 (λi hi x=>x.elim);have E2:=af (NI w4 (w.heap.size+1) 0 [] l [] 91 L4 0 [] (Ch.leaves ol s j) [] 91 h4 O rfl aa Z rfl (by omega));clear I D K4 h4 HX aa a0
   go_wp2_with fail
   refine b9 E2 ?_;rintro x w5 ⟨rfl,h5,K5⟩;have K6:=uS.trans K5;clear E2 K5 uS;go_wp2
   go_roundw
   case rel=>exact⟨k+1,_,by go_num,by omega,vc _ _,HF,h5,K6⟩
   case measure=>simp[intOf];omega
  have bi:¬(k:Int)<(list.length:Int):=by omega
  have HF:=af (HE.out.trans (show _=l by rw[c_ (by omega)];rfl));have aI:=I.row;have F:=lR O;have iG:=kU O;have ap:=ox l;have KZ:Kp _ _ (wr.setRow w.heap.size (kB l)):=KX.setRow (λx=>by omega) _;clear HE I D KX U X hr;generalize hL:kB l=L at*;have HL:=af hL;clear hL
  go_wp2_with (first|refine jO aI ad kJ F ?_|refine cj L Y F iG.symm ap ?_)
  refine uu (ax _ _ _ _ _ _ Y) ad kJ F ?_;rw[HF.out,HL.out];exact⟨rfl,KZ⟩
end
theorem vj.km{w w':World}{B mb ob po:Nat}{m:Ma}(h:Mm w B mb ob po m)(k:Kp (km B mb w) w w'){v:Value}{l:List Int}(r:vj w v l):vj w' v l:=by
 obtain⟨base,D⟩:=r;exact⟨base,h.row k D (by decide) (by decide)⟩
section
variable (w:World) (B mb ob po:Nat) (ol:Ol)
theorem Bc(m:Ma)(v:Value)(list:List Int)(h:vj w v list)(a3:wZ ol list)(hl:list.length<=1000)(hp:Pl w ob po ol)(O:ol.Ok)(hm:Mm w B mb ob po m)(hs:m.s.Ok)(hB:B<=w.heap.size)(hz:m.Sz 800000000):
 Calls prog 71 #[.pointer (some ⟨mb,0,none⟩),v] w λx w'=>x= .returned (.tuple #[])/\Mm w' B mb ob po (Ch.enter ol m list)/\Kp (km B mb w) w w':=by
 obtain⟨ds,a2,kJ⟩:=GB;have An:=O.ai;have X:=hs.1.1;have J:=an w (.cells fY 91);have ad:=kP.ofRow (ax (w.alloc (.cells fY 91)) w.heap.size fY (kB m.s.act) 91 (0,0) J);have K2:Kp (λ_=>False) w ((w.alloc (.cells fY 91)).setRow w.heap.size (kB m.s.act)):=((Kp.refl _ _).alloc _).setRow (λx=>by omega) _;have aa:=hm.still K2;have aj:=hp.az K2 (λ_ _ _ _ _ x=>x);have h2:=h.az K2 (λ_ _ _ x=>x);obtain⟨qv,ov,F,_⟩:=id hm
 have aI:∀j u,(m.s.act.map Value.bool)[j]? =some u->w.cell? ⟨mb,1+j,none⟩=some u:=by
  intro j u hj
  have a0:j<16:=by have:=(aJ.1 hj).1;simp at this;omega
  have:=kP.cell (pre:=[.pointer (some ⟨ob,po,none⟩)]) F X a0;rw[bw]at hj
  cases e:m.s.act[j]? with
  |none=>rw[e]at hj;simp at hj
  |some b=>rw[e]at hj;simp at hj;subst hj;simpa[Ch.bit,e]using this
 have am:=lR X;have vm:=kU X;have aS:=ox m.s.act
 have Nr:(prog.info? 91).map (·.size)=some (m.s.act.map Value.bool).length:=by rw[am];simp[kB]
 have HU:=af (show Ch.enter ol m list=eB ol m.s.act (dQ ol m.s list) ol.ai.length 0 m from rfl);have bi:=GU ol m.s list;clear hm hp h F
 go_enter func71,ntmps71
 go_wp2_with (first|refine cH rfl 91 (.tmp 10) rfl mb 1 rfl (m.s.act.map Value.bool) ds aI a2 kJ Nr ?_|refine cj (kB m.s.act) J am vm.symm aS ?_)
 generalize (w.alloc (.cells fY 91)).setRow w.heap.size (kB m.s.act)=w2 at*;have a6:=ad.lt;clear aI Nr am vm aS J;obtain⟨qv,ov,F,_⟩:=id aa;have E0:=af (KL w2 mb ob po m.s qv ov ol v list h2 a3 hl F hs.1 aj O);clear F
 go_wp2_with fail
 refine b9 E0 ?_;rintro x w3 ⟨gv,rfl,og,K3⟩
 have a1:vj _ _ _:=⟨_,og⟩
 have Y2:=aa.still K3;have a5:=aj.az K3 (λ_ _ _ _ _ x=>x);have Cn:=ad.az K3 (λx=>x);have KW:=K2.trans K3
 have bb:B<=w3.heap.size:=by have:=KW.size;omega
 clear og aa aj ad K2 K3 E0 h2 a6;generalize dQ ol m.s list=goals at*;generalize w.heap.size=sb at*;generalize dE:m.s.act=cr at*;clear dE
 go_wp2_with fail
 go_loopw [6] (λi wr=>∃(k:Nat) (I:Ma),i= .int .i64 k/\k<=ol.ai.length/\Hid (eB ol cr goals ol.ai.length 0 m=eB ol cr goals (ol.ai.length-k) k I)/\Mm wr B mb ob po I/\I.s.Ok/\I.Sz (800000000+115202*k)/\Kp (km B mb w3) w3 wr) (λi _=>ol.ai.length-(intOf i).toNat)
 case atStart=>exact⟨0,m,rfl,aG _,af rfl,Y2,hs,hz,Kp.refl _ _⟩
 case round=>
  obtain⟨k,I,rfl,hk,HE,D,Z,ap,G⟩:=hrel;have E:=Y2.pl G a5;have Gc:=vj.km Y2 G a1;have Y:kP _ _ _ _ _ _:=Y2.at_ G Cn (by decide) (by decide)
  have bc:B<=wr.heap.size:=by have:=G.size;omega
  have cp:=D.kb;obtain⟨ao,cap,c2⟩:=E.str.len
  by_cases a4:k<ol.ai.length
  ·have ba:(k:Int)<(ol.ai.length:Int):=by omega
   have ef:ol.ai.length-k=(ol.ai.length-(k+1))+1:=by omega
   obtain⟨a9,a8,F,_⟩:=id D;have E1:=af (KJ wr mb ob po I.s a9 a8 ol k sb cr gv goals Y X Gc (by omega) F Z.1 E O);have HX:=af (ae D (ae E G))
   cases q1:jr ol.ai I.s.act cr goals (k:Int)with
   |false=>
    rw[q1]at E1;have HF:=af (HE.out.trans (show _=eB ol cr goals (ol.ai.length-(k+1)) (k+1) I by rw[ef];simp only[eB];rw[q1];rfl));clear HE ef D E G F Gc Y
    go_wp2_with fail
    refine b9 E1 ?_;rintro x w4 ⟨rfl,U⟩;obtain⟨D,E,G⟩:=HX.out;have M4:=D.still U;have K5:=Km.trans G (Kp.km U);clear D E G U HX E1 cp c2;go_wp2
    go_roundw
    case rel=>exact⟨k+1,I,by go_num,by omega,HF,M4,Z,ap.le (by omega),K5⟩
    case measure=>simp[intOf];omega
   |true=>?_
   rw[q1]at E1;have HF:=af (HE.out.trans (show _=eB ol cr goals (ol.ai.length-(k+1)) (k+1) (dA ol I k)by rw[ef];simp only[eB];rw[q1];rfl));have aO:=uy (ol:=ol) Z k;have a7:=uz O ap k;clear HE ef D E G F Gc Y
   go_wp2_with fail
   refine b9 E1 ?_;rintro x w4 ⟨rfl,U⟩;obtain⟨D,E,G⟩:=HX.out;have M4:=D.still U;have xB:=E.az U (λ_ _ _ _ _ x=>x);have K5:=Km.trans G (Kp.km U);have E2:=af (yr w4 B mb ob po ol I k xB O M4 Z (by have:=U.size;omega) (ap.le (by omega)) a4);clear D E G U HX E1 cp c2 M4 xB
   go_wp2_with fail
   refine b9 E2 ?_;rintro x w5 ⟨rfl,M5,K6⟩;have K7:=Km.trans K5 K6;clear E2 K5 K6;go_wp2
   go_roundw
   case rel=>exact⟨k+1,_,by go_num,by omega,HF,M5,aO,a7.le (by omega),K7⟩
   case measure=>simp[intOf];omega
  have be:¬(k:Int)<(ol.ai.length:Int):=by omega
  have HF:=af (HE.out.trans (show _=I by rw[show ol.ai.length-k=0 by omega];rfl));have K2:=Km.trans (Kp.km KW) G;clear HE E Gc Y;go_wp2
  go_end0
  rw[HU.out,HF.out];exact⟨rfl,D,K2⟩
end
theorem Km.UM{B mb:Nat}{w w':World}(k:Kp (km B mb w.drew) w.drew w'):Kp (km B mb w) w w':=⟨k.os,k.tape,k.output,k.size,k.block⟩
theorem wy{w w':World}{b o:Nat}{c:Array Value}{T:TypeId}{f:Nat×Nat}(h:w.heap[b]? =some (.cells c T f))(D:w'.heap[b]? =some (.cells c T f)){v:Value}(E:w.cell? ⟨b,o,none⟩=some v):w'.cell? ⟨b,o,none⟩=some v:=by
 unfold World.cell? at*;simp_all
theorem Pl.trB{w:World}{ob po:Nat}{ol:Ol}(h:Pl w ob po ol){k:Nat}{t:Tr}(D:ol.cW[k]? =some t):
 ∃g cap ac B,w.cell? ⟨ob,po+3,none⟩=some (.slice (some ⟨g,0,none⟩) ol.cW.length cap)/\w.cell? ⟨g,k*7+5,none⟩=some ac/\w.ownsRow B 255 3 ac t.bD.length (gT t.bD)/\
  (∃c T,w.heap[ob]? =some (.cells c T (0,0))/\T≠149/\T≠5)/\∃c,w.heap[g]? =some (.cells c 209 (0,0)):=by
 obtain⟨sv,tv,bv,lt,lb,B,c,T,⟨hb,G,c2,c3,c4⟩,F⟩:=h;rw[<-F.F9,bw]at D
 cases E:lt[k]? with
 |none=>simp_all
 |some x=>?_
 rw[E]at D;simp at D;subst D;have hk:=(aJ.1 E).1;obtain⟨g,cap,rfl⟩:=ij F.cW (by omega);refine⟨g,cap,x.2,B,by rw[<-F.F9,gx];simp[World.cell?,hb,c3],?_,F.j_ x (aM E),⟨c,T,hb,?_,?_⟩,bz F.cW rfl⟩
 ·rw[F.cW.cellAt (k*7+5) (by omega)]
  exact xN _ 7 (by intro _;rfl) lt k 5 x E (by omega)
 ·grind[oT]
 grind[oT]
theorem vj.bO{w:World}{g n cap:Nat}{l:List Int}(h:vj w (.slice (some ⟨g,0,none⟩) n cap) l):∃c,w.heap[g]? =some (.cells c 3 (0,0)):=by
 obtain⟨base,D⟩:=h;exact bz D rfl
section
variable (w:World) (B mb ob po:Nat) (ol:Ol)
theorem qu(m:Ma)(v:Value)(list:List Int)(h:vj w v list)(aj:wZ ol list)(hl:list.length<=16)(hp:Pl w ob po ol)(U:ol.Ok)(hm:Mm w B mb ob po m)(hs:m.s.Ok)(hB:B<=w.heap.size)(hz:m.Sz 700000000):
 Calls prog 81 #[.pointer (some ⟨mb,0,none⟩),v] w λx w'=>x= .returned (.tuple #[])/\Mm w' B mb ob po (dC ol m list)/\Kp (km B mb w) w w':=by
 have An:=U.ai;have Y3:=w_ ol m.s list;have HU:=af (show dC ol m list=Ch.enter ol (fh ol list (cM ol (cT ol m.s list) ol.ai.length {m with s:=Ch.rem ol.ai m.s (cT ol m.s list)})) list from rfl);obtain⟨qv,ov,E,_⟩:=id hm;have E0:=af (DH w mb ob po m.s qv ov ol v list h aj (by omega) E hs.1 hp U);clear E
 go_enter func81,ntmps81
 go_wp2_with fail
 refine b9 E0 ?_;rintro x w1 ⟨rfl,I⟩;generalize cT ol m.s list=left at*;have Z:=an w1 (.cells fY 91);have J:=kP.ofRow (ax (w1.alloc (.cells fY 91)) w1.heap.size fY (kB left) 91 (0,0) Z);have Y:Kp _ _ ((w1.alloc (.cells fY 91)).setRow w1.heap.size (kB left)):=(I.alloc _).setRow (λx=>by have:=I.size;omega) _;have F:=hm.still Y;have G:=hp.az Y (λ_ _ _ _ _ x=>x);have h2:=h.az Y (λ_ _ _ x=>x)
 have b3:mb<w1.heap.size:=by have:=hm.lt;have:=I.size;omega
 have a4:=lR Y3;have vm:=kU Y3;have a3:=ox left;clear I E0 hm hp h;generalize bb:kB left=LV at*;clear bb
 go_wp2_with (refine cj LV Z a4 vm.symm a3 ?_)
 clear Z a4 vm a3;generalize (w1.alloc (.cells fY 91)).setRow w1.heap.size LV=w2 at*;generalize w1.heap.size=lb at*
 go_upto_region 1 with(fail)
 dsimp only[Act.put];obtain⟨qv,ov,E,oq,oo,ap⟩:=id F;have cp:=E.kb
 have a5:ob≠mb:=by
  obtain⟨sv,tv,bv,lt,b4,B',c,T,⟨hb,hT,_⟩,_⟩:=G;intro e;have a6:w2.heap[mb]? =some (.cells _ 149 (0,0)):=E;rw[e,a6]at hb;simp at hb;obtain⟨_,rfl⟩:=hb
  revert hT;unfold oT;decide
 have E1:=af (Cf ob po w2.drew ol.ai mb 1 [.pointer (some ⟨ob,po,none⟩)] m.s [qv,ov] 149 lb 0 [] left [] 91 (by exact G.str) (by omega) (by exact E) hs.1 rfl (by exact J) Y3 rfl (by omega) a5 (by decide));have HX:=af (ae E (ae oq (ae oo ap)));have HY:=af (ae F (ae G (ae J (ae h2 Y))));clear E oq oo ap F G J h2 Y
 go_cut [4]from 9 to 16 (λb wx=>b= .pointer (some ⟨lb,0,none⟩)/\Mm wx B mb ob po {m with s:=Ch.rem ol.ai m.s left}/\Kp (km B mb w2) w2 wx)
 case first=>
  go_region_with (go_at_call 132;refine b9 E1 ?_;rintro x w3 ⟨rfl,h3,K3⟩;have H:=af (ae h3 K3);clear E1 h3 K3)
  all_goals (go_wp2;go_meet;obtain⟨E,oq,oo,ap⟩:=HX.out;obtain⟨h3,K3⟩:=H.out;exact⟨rfl,Mm.put (w:=w2) E oq oo ap (((Kp.refl (λk=>k=mb) w2).drewN 1).trans K3) (by exact h3)⟩)
 case rest=>
 obtain⟨rfl,M3,K3⟩:=hcut;obtain⟨F,G,J,h2,Y⟩:=HY.out;have X:=F.pl K3 G;have Cn:kP _ _ _ _ _ _:=F.at_ K3 J (by decide) (by decide);have h3:=vj.km F K3 h2;have KC:=Km.trans (Kp.km (B:=B) (mb:=mb) Y) K3;have aI:({m with s:=Ch.rem ol.ai m.s left}:Ma).s.Ok:=Cm _ hs;have aO:({m with s:=Ch.rem ol.ai m.s left}:Ma).Sz 700000000:=hz;clear HX HY E1 F G J h2 Y K3 cp;generalize ({m with s:=Ch.rem ol.ai m.s left}:Ma)=m1 at*
 have a8:B<=wc.heap.size:=by have:=KC.size;omega
 have E2:=af (Ky wc B mb ob po ol m1 lb left Cn Y3 X U M3 aI a8 (aO.le (by omega)));have HY:=af (ae M3 (ae X (ae h3 KC)));have bc:=wo ol left ol.ai.length aI;have Y4:=wu U left ol.ai.length aO;clear M3 X h3 KC Cn
 go_wp2_with fail
 refine b9 E2 ?_;rintro x w4 ⟨rfl,M4,K4⟩;obtain⟨M3,X,h3,KC⟩:=HY.out;have xB:=M3.pl K4 X;have h4:=vj.km M3 K4 h3;have KD:=Km.trans KC K4
 have bt:B<=w4.heap.size:=by have:=K4.size;omega
 clear M3 X h3 KC K4 HY E2;generalize cM ol left ol.ai.length m1=m2 at*;have a7:m2.Sz 710000000:=Y4.le (by omega);clear Y4 aO aI;obtain⟨ao,cap,rfl⟩:=h4.len
 go_wp2_with fail
 go_loopw [5] (λi wr=>∃(k:Nat) (m':Ma),i= .int .i64 k/\k<=list.length/\Hid (fh ol list m2=fh ol (list.drop k) m')/\Mm wr B mb ob po m'/\m'.s.Ok/\m'.Sz (710000000+480*k)/\Kp (km B mb w4) w4 wr) (λi _=>list.length-(intOf i).toNat)
 case atStart=>exact⟨0,m2,rfl,aG _,af rfl,M4,bc,a7,Kp.refl _ _⟩
 case round=>
  obtain⟨k,m',rfl,hk,HE,D,am,ad,I⟩:=hrel;have aa:=M4.pl I xB;have hr:=vj.km M4 I h4
  have aS:B<=wr.heap.size:=by have:=I.size;omega
  by_cases a2:k<list.length
  ·have bk:(k:Int)<(list.length:Int):=by omega
   obtain⟨a,ha⟩:∃s,list[k]? =some s:=⟨_,ar a2⟩
   obtain⟨g,bi,hg,a0⟩:=hr.at_ ha;simp only[aK,bS]at hg;obtain⟨rfl,rfl⟩:=hg
   have ed:list.drop k=a::list.drop (k+1):=by
    rw[eZ a2];congr 1;exact(aJ.1 ha).2
   obtain⟨bx,b0⟩:=aj a (aM ha)
   obtain⟨j,rfl⟩:∃j:Nat,a=j:=⟨a.toNat,by omega⟩
   have hj:j<ol.cW.length:=by omega
   have b2:(j:Int)<(ol.cW.length:Int):=by omega
   obtain⟨t,ht⟩:∃s,ol.cW[j]? =some s:=⟨_,ar hj⟩
   obtain⟨tg,UJ,ac,base,c3,b5,a1,⟨bo,bm,sr,a9,ba⟩,br,Wi⟩:=aa.trB ht;obtain⟨cg,O⟩:=hr.bO;have cp:=D.kb;have zY:=U.j_ t (aM ht);have HF:=af (HE.out.trans (show _=fh ol (list.drop (k+1)) (dF t.bD m')by rw[ed];simp only[fh,db,sE,ht]));have E1:=af (NZ wr.drew B mb ob po m' t.bD ac base (by exact a1) (by exact D) am zY.2 aS (by have:=zY.1;omega) (by have:=ad.1;omega) (by have:=ad.2;omega));have eD:=ql t.bD am;have be:=tF ad zY.1;have HK:=af (ae I (ae D (ae sr (ae Wi O))));clear HE aa hr a1 ht ha ed D I sr Wi O
   go_upto_region 6 with(fail)
   go_region_held3 (λw'=>w'.cell? ⟨mb,0,none⟩=some (.pointer (some ⟨ob,po,none⟩))/\w'.cell? ⟨ob,po+3,none⟩=some (.slice (some ⟨tg,0,none⟩) ol.cW.length UJ)/\w'.cell? ⟨g,k,none⟩=some (.int .i64 j)/\w'.cell? ⟨tg,j*7+5,none⟩=some ac) (first|exact⟨cp,c3,a0,b5⟩|exact HS.out) ((go_at_call 134;refine b9 E1 ?_;rintro x w5 ⟨rfl,h5,K5⟩;have H:=af (ae h5 K5);obtain⟨I,D,sr,Wi,O⟩:=HK.out;have HS:=af (ae h5.kb (ae (wy sr (Mm.at_ (w:=wr.drew) (by exact D) K5 (by exact sr) a9 ba) c3) (ae (wy O (Mm.at_ (w:=wr.drew) (by exact D) K5 (by exact O) (by decide) (by decide)) a0) (wy Wi (Mm.at_ (w:=wr.drew) (by exact D) K5 (by exact Wi) (by decide) (by decide)) b5))));clear E1 h5 K5 I D sr Wi O))
   all_goals (
    obtain⟨M5,K6⟩:=H.out;have K5:=Km.trans HK.out.1 (Km.UM K6);clear H HS HK K6 c3 b5 cp a0;go_wp2
    go_roundw
    case rel=>exact⟨k+1,_,by go_num,by omega,HF,M5,eD,be.le (by omega),K5⟩
    case measure=>simp[intOf];omega)
  have b1:¬(k:Int)<(list.length:Int):=by omega
  have HF:=af (HE.out.trans (show _=m' by rw[c_ (by omega)];rfl));have Y:=Km.trans KD I;have E2:=af (Bc wr B mb ob po ol m' _ list hr aj (by omega) aa U D am aS (ad.le (by omega)));clear HE aa hr I D
  go_wp2_with fail
  refine b9 E2 ?_;rintro x w5 ⟨rfl,M5,K5⟩;have K6:=Km.trans Y K5;clear E2 Y K5;go_wp2
  go_end0
  rw[HU.out,HF.out];exact⟨rfl,M5,K6⟩
end
section
variable (w:World) (B mb ob po:Nat) (ol:Ol)
theorem DI(m:Ma)(hp:Pl w ob po ol)(G:ol.Ok)(hm:Mm w B mb ob po m)(hs:m.s.Ok):
 Calls prog 119 #[.pointer (some ⟨mb,0,none⟩)] w λx w'=>x= .returned (.bool (Ch.busy ol m))/\Kp (λ_=>False) w w':=by
 obtain⟨qv,ov,D,oq,_⟩:=id hm;have U:=af (oy w mb ob po m.s qv ov ol 46 D hs.1 hp G);have F:=af (show Ch.busy ol m=(decide (0<(Ch.choose ol m.s 46).length)||decide (0<m.q.length))from rfl);have X:=af D;clear D
 go_enter func119,ntmps119
 go_wp2_with fail
 refine b9 U ?_;rintro x w1 ⟨v1,rfl,Z,E⟩;have D:iW _ _ _ _ _ _ _:=ey.az X.out E (λx=>x);have cq:=D.queue hs.1;obtain⟨qo,qc,rfl⟩:=oq.len
 have Y:(aD m.q).length=m.q.length:=by simp[aD]
 rw[Y]at cq;generalize Ch.choose ol m.s 46=list at*;obtain⟨ao,cap,rfl⟩:=Z.len;clear X D U oq Z hm hp Y
 by_cases I:0<list.length
 ·have J:(0:Int)<(list.length:Int):=by omega
  go_wp2;go_ret;rw[F.out];exact⟨by simp[I],E⟩
 have J:¬(0:Int)<(list.length:Int):=by omega
 by_cases q2:0<m.q.length
 ·have O:(0:Int)<(m.q.length:Int):=by omega
  go_wp2;go_ret;rw[F.out];exact⟨by simp[I,q2],E⟩
 have O:¬(0:Int)<(m.q.length:Int):=by omega
 go_wp2;go_ret;rw[F.out];exact⟨by simp[I,q2],E⟩
end
theorem dh.head{w:World}{base:Nat}{v:Value}{a:Int}{q:List Int}(h:dh w base v (aD (a::q))):
 ∃g D cap,v= .slice (some ⟨g,D,none⟩) (q.length+1) cap/\w.cell? ⟨g,D,none⟩=some (.int .u8 a)/\q.length+1<=cap/\dh w base (.slice (some ⟨g,D+1,none⟩) q.length (cap-1)) (aD q)/\(cap=1->dh w base (.slice (some ⟨g,D,none⟩) q.length 0) (aD q)):=by
 rcases h with⟨_,h⟩|⟨g,D,cap,E,rfl,hb,G,I,hs,J⟩
 ·grind[aD]
 have U:(aD (a::q)).length=q.length+1:=by simp[aD]
 have F:(aD q).length=q.length:=by simp[aD]
 rw[U]at I⊢;refine⟨g,D,cap,rfl,?_,I,.inr ⟨g,D+1,cap-1,E,by rw[F],hb,G,by rw[F];omega,by omega,?_⟩,λe=>.inr ⟨g,D,0,E,by rw[F],hb,G,by rw[F];omega,by omega,?_⟩⟩
 ·rw[lh w g D E _ _ G]
  exact J 0 _ (by simp[aD])
 ·intro j u O
  have:=J (j+1) u (by simpa[aD]using O);grind
 simp_all
theorem Mm.deq{w:World}{B mb ob po:Nat}{s:Sd}{qv ov V:Value}{q out:List Int}(hm:iW w mb ob po s qv ov)(hw:s.Wf)(F:dh w B V (aD q))(oo:dh w B ov (aD out))(G:kQ V ov):
 Mm (w.setCell ⟨mb,37,none⟩ V) B mb ob po ⟨s,q,out⟩/\iW (w.setCell ⟨mb,37,none⟩ V) mb ob po s V ov/\Kp (km B mb w) w (w.setCell ⟨mb,37,none⟩ V):=by
 have D:=hm.GI hw V;have E:Kp _ w _:=Kp.setCell (S:=λk=>k=mb) (Kp.refl _ _) (p:=⟨mb,37,none⟩) (λ_=>rfl) V;have I:=F.ne hm (by decide);have J:=oo.ne hm (by decide);exact⟨⟨_,_,D,F.az E (λi hi x=>by subst x;exact I hi),oo.az E (λi hi x=>by subst x;exact J hi),G⟩,D,(Kp.refl _ _).trans' E (λi _ x=>.inl x)⟩
section
variable (w:World) (B mb ob po:Nat) (ol:Ol)
theorem La(m:Ma)(Z:Pl w ob po ol)(J:ol.Ok)(hm:Mm w B mb ob po m)(hs:m.s.Ok)(hB:B<=w.heap.size)(hz:m.Sz 700000000):
 Calls prog 120 #[.pointer (some ⟨mb,0,none⟩)] w λx w'=>x= .returned (.tuple #[])/\Mm w' B mb ob po (Ch.round ol m)/\Kp (km B mb w) w w':=by
 obtain⟨qv,ov,F,oq,oo,ap⟩:=id hm;have E0:=af (oy w mb ob po m.s qv ov ol 46 F hs.1 Z J);have HX:=af (ae F (ae oq (ae oo (ae ap (ae hm Z)))));obtain⟨X,ad⟩:=kS ol m.s 46;have An:=J.ai;clear F oq oo ap hm Z
 cases q1:(Ch.choose ol m.s 46).length==0 with
 |false=>
  rw[show Ch.round ol m=dC ol m (Ch.choose ol m.s 46)by unfold Ch.round;rw[q1];rfl]
  go_enter func120,ntmps120
  go_wp2_with fail
  refine b9 E0 ?_;rintro x w1 ⟨v1,rfl,h1,G⟩;obtain⟨F,oq,oo,ap,hm,Z⟩:=HX.out;have E:=hm.still G;have I:=Z.az G (λ_ _ _ _ _ x=>x);have E1:=af (qu w1 B mb ob po ol m _ _ h1 X (by omega) I J E hs (by have:=G.size;omega) hz);generalize aI:Ch.choose ol m.s 46=list at*;have HL:=af aI;clear aI;obtain⟨ao,cap,rfl⟩:=h1.len
  have a1:¬((list.length:Int)=0):=by intro e;have:list.length=0:=by omega
                                     rw[this]at q1;exact absurd q1 (by decide)
  have a3:((list.length:Int)==0)=false:=by simpa using a1
  clear F oq oo ap hm Z HX E I h1 E0
  go_wp2_with fail
  refine b9 E1 ?_;rintro x w2 ⟨rfl,U,Y⟩;have O:=Km.trans (Kp.km G) Y;clear E1 G Y;go_wp2
  go_end0
  rw[HL.out];exact⟨rfl,U,O⟩
 |true=>?_
 have e0:Ch.choose ol m.s 46=[]:=by
  cases q:Ch.choose ol m.s 46 with
  |nil=>rfl
  |cons a l=>rw[q]at q1;simp at q1
 cases q2:m.q with
 |nil=>
  rw[show Ch.round ol m=dC ol m []by unfold Ch.round;rw[q1,q2,e0];rfl];rw[e0]at E0;clear q1 e0 X ad
  go_enter func120,ntmps120
  go_wp2_with fail
  refine b9 E0 ?_;rintro x w1 ⟨v1,rfl,h1,G⟩;obtain⟨F,oq,oo,ap,hm,Z⟩:=HX.out;have E:=hm.still G;have I:=Z.az G (λ_ _ _ _ _ x=>x);have E1:=af (qu w1 B mb ob po ol m _ _ h1 (by intro n hn;simp at hn) (by simp) I J E hs (by have:=G.size;omega) hz);have W0:iW _ _ _ _ _ _ _:=ey.az F G (λx=>x);have cq:=W0.queue hs.1;obtain⟨qo,qc,rfl⟩:=oq.len
  have Rg:(aD m.q).length=0:=by rw[q2];rfl
  rw[Rg]at cq;obtain⟨ao,cap,rfl⟩:=h1.len;simp only[jB]at E1;clear F oq oo ap hm Z HX E I h1 E0 W0 Rg
  go_wp2_with fail
  refine b9 E1 ?_;rintro x w2 ⟨rfl,U,Y⟩;have O:=Km.trans (Kp.km G) Y;clear E1 G Y cq;go_wp2
  go_end0
  exact⟨rfl,U,O⟩
 |cons a q=>?_
 have aO:({m with q:=q}:Ma).Sz 700000000:=⟨by have:=hz.1;rw[q2]at this;simp at this⊢;omega,hz.2⟩
 rw[show Ch.round ol m=dC ol {m with q:=q} (Ch.choose ol m.s a)by unfold Ch.round;rw[q1,q2];rfl];rw[e0]at E0;clear q1 e0 X ad
 go_enter func120,ntmps120
 go_wp2_with fail
 refine b9 E0 ?_;rintro x w1 ⟨v1,rfl,h1,G⟩;obtain⟨ao,cap,rfl⟩:=h1.len;simp only[jB];obtain⟨F,oq,oo,ap,hm,Z⟩:=HX.out;have E:iW _ _ _ _ _ _ _:=ey.az F G (λx=>x);have I:=Z.az G (λ_ _ _ _ _ x=>x);have cq:=E.queue hs.1;have Y5:=oq.az G (λ_ _ x=>x);have Y6:=oo.az G (λ_ _ x=>x);rw[q2]at Y5;obtain⟨g,aj,Rh,rfl,cg,a0,am,UI⟩:=Y5.head
 have fz:=λi=>ey.free E i
 have Rj:=hm.still G
 have a2:(q.length:Int)+1<=(Rh:Int):=by omega
 by_cases aS:Rh=1
 ·subst aS
  obtain rfl:q=[]:=by
   cases q with
   |nil=>rfl
   |cons b l=>simp at a0
  obtain⟨U,aa,Y⟩:=Mm.deq (V:=.slice (some ⟨g,aj,none⟩) 0 0) E hs.1 (UI rfl) Y6 (λi hi x=>ap i (by simpa[Value.ownBlock]using hi) x);have D:=Rj.pl Y I;have O:=Km.trans (Kp.km G) Y;have E1:=af (oy (w1.setCell ⟨mb,37,none⟩ (.slice (some ⟨g,aj,none⟩) 0 0)) mb ob po m.s _ _ ol a aa hs.1 D J);have HY:=af (ae U (ae D O));obtain⟨X,ad⟩:=kS ol m.s a;clear F oq oo ap hm Z HX E I Y5 Y6 am UI aa U D Y O E0 h1 G Rj
  go_wp2_with fail
  refine b9 E1 ?_;rintro x w4 ⟨v4,rfl,h4,K4⟩;obtain⟨U,D,O⟩:=HY.out;have M4:=U.still K4;have xB:=D.az K4 (λ_ _ _ _ _ x=>x);have K5:=Km.trans O (Kp.km K4);have E2:=af (qu w4 B mb ob po ol _ _ _ h4 X (by omega) xB J M4 hs (by have:=K5.size;omega) aO);clear U D O K4 HY E1 M4 xB h4 cq cg fz
  go_wp2_with fail
  refine b9 E2 ?_;rintro x w5 ⟨rfl,M5,K6⟩;have K7:=Km.trans K5 K6;clear E2 K5 K6;go_wp2
  go_end0
  exact⟨rfl,M5,K7⟩
 obtain⟨U,aa,Y⟩:=Mm.deq (V:=.slice (some ⟨g,aj+1,none⟩) q.length (Rh-1)) E hs.1 (am) Y6 (λi hi x=>ap i (by simpa[Value.ownBlock]using hi) x);have D:=Rj.pl Y I;have O:=Km.trans (Kp.km G) Y;have E1:=af (oy (w1.setCell ⟨mb,37,none⟩ (.slice (some ⟨g,aj+1,none⟩) q.length (Rh-1))) mb ob po m.s _ _ ol a aa hs.1 D J);have HY:=af (ae U (ae D O));obtain⟨X,ad⟩:=kS ol m.s a;clear F oq oo ap hm Z HX E I Y5 Y6 am UI aa U D Y O E0 h1 G Rj
 go_wp2_with fail
 refine b9 E1 ?_;rintro x w4 ⟨v4,rfl,h4,K4⟩;obtain⟨U,D,O⟩:=HY.out;have M4:=U.still K4;have xB:=D.az K4 (λ_ _ _ _ _ x=>x);have K5:=Km.trans O (Kp.km K4);have E2:=af (qu w4 B mb ob po ol _ _ _ h4 X (by omega) xB J M4 hs (by have:=K5.size;omega) aO);clear U D O K4 HY E1 M4 xB h4 cq cg fz
 go_wp2_with fail
 refine b9 E2 ?_;rintro x w5 ⟨rfl,M5,K6⟩;have K7:=Km.trans K5 K6;clear E2 K5 K6;go_wp2
 go_end0
 exact⟨rfl,M5,K7⟩
end
theorem pA{α:Type}(l:List α)(i:Nat)(a:α):l.toArray.setIfInBounds i a=(l.set i a).toArray:=List.setIfInBounds_toArray ..
theorem pB{α:Type}(x:α)(l:List α)(i:Nat)(a:α):(x::l).set (i+1) a=x::l.set i a:=rfl
theorem pC{α:Type}(x:α)(l:List α)(a:α):(x::l).set 0 a=a::l:=rfl
section
variable {P:Program} {Q:Exit->Act->World->Prop} {S:World->Prop}
theorem bf(S:World->Prop){id:Nat}{l:List Oper}{a:Act}{w:World}(hm:P.follows .mixedOrders=true)
 (h:wpAnyH P .any l.toArray (NoPanic Q) S l.length (Array.replicate l.length false) a w.drew):(Code.region id l.toArray true).wp P Q a w:=
 wp_region_noPanic (wp_region_held (S:=S) hm (by simpa using h))
theorem Rk{E:Array Oper}(i d:Nat){G:Oper}(v:Value){F:Nat}{D:Array Bool}{a:Act}{w:World}(hi:E[i]? =some G)(hs:Region.noSelect E=true)
 (O:Region.free .any E D i=true) (X:(Region.ready .any E D).contains i=true) (U:G.guard=none) (J:G.dst=some d) (Y:∀w',S w'->(execOp a.eval G).run P w'= .ok (.value v) w') (I:S w)
 (h:wpAnyH P .any E (NoPanic Q) S F (D.setIfInBounds i true) (a.put (some d) v) w):wpAnyH P .any E (NoPanic Q) S (F+1) D a w:=
 wpAnyH_take hi hs O X (λ_ _ _ h=>h) (.inl ⟨by simp[Region.wanted,U],Y⟩) I (by rw[J];exact h)
theorem tk{E:Array Oper}(i d:Nat){G:Oper}(v:Value){F:Nat}{D:Array Bool}{a:Act}{w:World}(hi:E[i]? =some G)(hb:(Region.noSelect E&&Region.free .any E D i&&(Region.ready .any E D).contains i)=true)
 (O:G.guard=none) (J:G.dst=some d) (U:∀w',S w'->(execOp a.eval G).run P w'= .ok (.value v) w') (I:S w)
 (h:wpAnyH P .any E (NoPanic Q) S F (D.setIfInBounds i true) (a.put (some d) v) w):wpAnyH P .any E (NoPanic Q) S (F+1) D a w:=by
 grind[Rk]
theorem vn{E:Array Oper}(i:Nat){G:Oper}{F:Nat}{D:Array Bool}{a:Act}{w:World}(J:Region.ready .any E D=[i])(hi:E[i]? =some G)(I:G.guard=none)
 (h:G.wp P a w (λa' w'=>S w'/\wpAnyH P .any E (NoPanic Q) S F (D.setIfInBounds i true) a' w') (NoPanic Q)):wpAnyH P .any E (NoPanic Q) S (F+1) D a w:=
 wpAnyH_all J (by simp) (λj hj=>by
  simp at hj;subst hj
  have hw:Region.wanted G (yielded E a.tmps)=true:=by simp[Region.wanted,I]
  simp only[wpOp,hi,hw,aV]
  exact .inl h)
end
section
variable {P:Program} {o:Oper} {a:Act} {w:World} {K:Act->World->Prop} {Q:Exit->Act->World->Prop}
theorem dW(d:Option Tmp)(F:o.dst=d)(f:FuncId)(args:Array Value)(D:(execOp a.eval o).run P w= .ok (.enter f args) w)(v:Value)(R:World->Prop)
 (E:Calls P f args w λe w'=>e= .returned v/\R w') (h:∀w',R w'->K (a.put d v) w'):o.wp P a w K Q:=by
 subst F;unfold Oper.wp;rw[D,Oper.upon_enter]
 refine E.mono λe w' hh=>?_
 simp_all
theorem gI(d:Option Tmp)(E:o.dst=d)(v:Value)(w':World)(D:(execOp a.eval o).run P w= .ok (.value v) w')(h:K (a.put d v) w'):o.wp P a w K Q:=by
 subst E;unfold Oper.wp;rw[D,Oper.upon_value];omega
theorem rh{S:World->Prop}{E:Array Oper}(i j:Nat){G I:Oper}{F:Nat}{D:Array Bool}(Y:Region.ready .any E D=[i,j])(hi:E[i]? =some G)(X:E[j]? =some I)(J:G.guard=none)(O:I.guard=none)
 (Z:G.wp P a w (λa' w'=>S w'/\wpAnyH P .any E (NoPanic Q) S F (D.setIfInBounds i true) a' w') (NoPanic Q))
 (U:I.wp P a w (λa' w'=>S w'/\wpAnyH P .any E (NoPanic Q) S F (D.setIfInBounds j true) a' w') (NoPanic Q)):wpAnyH P .any E (NoPanic Q) S (F+1) D a w:=
 wpAnyH_all Y (by simp) (λk hk=>by
  simp only[dP,hY,h_]at hk
  rcases hk with rfl|rfl
  ·have hw:Region.wanted G (yielded E a.tmps)=true:=by simp[Region.wanted,J]
   simp only[wpOp,hi,hw,aV];simp_all
  have hw:Region.wanted I (yielded E a.tmps)=true:=by simp[Region.wanted,O]
  simp only[wpOp,X,hw,aV]
  exact .inl U)
end
section
variable {P:Program} {Q:Exit->Act->World->Prop} {S:World->Prop}
theorem bM{E:Array Oper}(i d:Nat){G:Oper}(v:Value){F:Nat}{D:Array Bool}{a I:Act}{w:World}(J:S w)
 (h:wpAnyH P .any E (NoPanic Q) S F (D.setIfInBounds i true) I w) (hi:E[i]? =some G:=by exact rfl) (hb:(Region.noSelect E&&Region.free .any E D i&&(Region.ready .any E D).contains i)=true:=by kernel_rfl)
 (X:G.guard=none:=by exact rfl) (U:G.dst=some d:=by exact rfl) (Y:∀w',S w'->(execOp a.eval G).run P w'= .ok (.value v) w':=by intro w' _;simp[execOp,Act.eval,go_sem]) (O:a.put (some d) v=I:=by(conv=>lhs;simp only[Act.put,pA,pB,pC]);all_goals exact rfl):wpAnyH P .any E (NoPanic Q) S (F+1) D a w:=
 tk i d v hi hb X U Y J (by rw[O];exact h)
theorem eG{E:Array Oper}(i d:Nat){G:Oper}(v:Value){F:Nat}{D:Array Bool}{a I:Act}{w:World}(hi:E[i]? =some G)
 (Y:∀w',S w'->(execOp a.eval G).run P w'= .ok (.value v) w') (J:S w) (h:wpAnyH P .any E (NoPanic Q) S F (D.setIfInBounds i true) I w) (hb:(Region.noSelect E&&Region.free .any E D i&&(Region.ready .any E D).contains i)=true:=by kernel_rfl)
 (X:G.guard=none:=by exact rfl) (U:G.dst=some d:=by exact rfl) (O:a.put (some d) v=I:=by(conv=>lhs;simp only[Act.put,pA,pB,pC]);all_goals exact rfl):wpAnyH P .any E (NoPanic Q) S (F+1) D a w:=
 tk i d v hi hb X U Y J (by rw[O];exact h)
theorem kE{E:Array Oper}(i d:Nat){G:Oper}(v:Value){F:Nat}{D:Array Bool}{a:Act}{w:World}(hi:E[i]? =some G)
 (U:∀w',S w'->(execOp a.eval G).run P w'= .ok (.value v) w') (I:S w) (h:wpAnyH P .any E (NoPanic Q) S F (D.setIfInBounds i true) (a.put (some d) v) w) (hb:(Region.noSelect E&&Region.free .any E D i&&(Region.ready .any E D).contains i)=true:=by kernel_rfl)
 (O:G.guard=none:=by exact rfl) (J:G.dst=some d:=by exact rfl):wpAnyH P .any E (NoPanic Q) S (F+1) D a w:=
 tk i d v hi hb O J U I h
theorem oX{E:Array Oper}(i:Nat){G:Oper}{F:Nat}{D:Array Bool}{a:Act}{w:World}
 (h:G.wp P a w (λa' w'=>S w'/\wpAnyH P .any E (NoPanic Q) S F (D.setIfInBounds i true) a' w') (NoPanic Q)) (J:Region.ready .any E D=[i]:=by kernel_rfl) (hi:E[i]? =some G:=by exact rfl) (I:G.guard=none:=by exact rfl):wpAnyH P .any E (NoPanic Q) S (F+1) D a w:=
 vn i J hi I h
end
theorem Od:(prog.info? 149).map (·.size)=some 39:=by kernel_rfl
theorem W3:∃d,prog.underlying 87=some d/\dU d=true:=⟨_,underlying87,rfl⟩
theorem yt(q:Option Addr)(a0 a1 a2 a3 a4 a5 a6 a7 a8 a9 U X D Y Z Nq:Bool)(p0 p1 p2 p3 p4 p5 p6 p7 p8 p9 E F G I J O:Int)(tm:ByteArray)(x y z:Int):
 prog.built 149 [(0,.pointer q),(1,.agg #[.bool a0,.bool a1,.bool a2,.bool a3,.bool a4,.bool a5,.bool a6,.bool a7,.bool a8,.bool a9,.bool U,.bool X,.bool D,.bool Y,.bool Z,.bool Nq,.int .u8 p0,.int .u8 p1,.int .u8 p2,.int .u8 p3,.int .u8 p4,.int .u8 p5,.int .u8 p6,.int .u8 p7,.int .u8 p8,.int .u8 p9,.int .u8 E,.int .u8 F,.int .u8 G,.int .u8 I,.int .u8 J,.int .u8 O,.string tm,.int .i64 x,.int .i64 y,.int .i64 z])]=some #[.pointer q,.bool a0,.bool a1,.bool a2,.bool a3,.bool a4,.bool a5,.bool a6,.bool a7,.bool a8,.bool a9,.bool U,.bool X,.bool D,.bool Y,.bool Z,.bool Nq,.int .u8 p0,.int .u8 p1,.int .u8 p2,.int .u8 p3,.int .u8 p4,.int .u8 p5,.int .u8 p6,.int .u8 p7,.int .u8 p8,.int .u8 p9,.int .u8 E,.int .u8 F,.int .u8 G,.int .u8 I,.int .u8 J,.int .u8 O,.string tm,.int .i64 x,.int .i64 y,.int .i64 z,.slice none 0 0,.slice none 0 0]:=by kernel_rfl
def Ns(q:Option Addr)(s:Sd):Array Value:=([Value.pointer q]++s.act.map Value.bool++(cX s++[Value.slice none 0 0,Value.slice none 0 0])).toArray
theorem yu(q:Option Addr)(s:Sd)(hw:s.Wf):prog.built 149 [(0,.pointer q),(1,.agg (aY s).toArray)]=some (Ns q s):=by
 obtain⟨act,cd,tm,x,y,z⟩:=s;obtain⟨E,F⟩:=hw;simp only at E F;obtain⟨a0,a1,a2,a3,a4,a5,a6,a7,a8,a9,Y,Z,D,No,Np,Nq,rfl⟩:=ym act E;obtain⟨p0,p1,p2,p3,p4,p5,p6,p7,p8,p9,G,I,J,O,U,X,rfl⟩:=ym cd F;exact yt q a0 a1 a2 a3 a4 a5 a6 a7 a8 a9 Y Z D No Np Nq p0 p1 p2 p3 p4 p5 p6 p7 p8 p9 G I J O U X tm x y z
theorem yv(q:Option Addr){s:Sd}(hw:s.Wf):(Ns q s).size=39:=by simp[Ns,cX,bZ,hw.1,hw.2]
theorem DJ(q:Option Addr){s:Sd}(hw:s.Wf):(prog.info? 149).map (·.size)=some (Ns q s).size:=by rw[yv q hw];exact Od
theorem Jp(q:Option Addr)(s:Sd):(Ns q s).all (λx=>x.oneCell')=true:=by
 apply gN.2;intro x D;simp only[Ns,cX,bZ,lZ,cB,ib,dP,hY,h_]at D
 rcases D with(rfl|⟨a,_,rfl⟩)|((⟨a,_,rfl⟩|rfl|rfl|rfl|rfl)|rfl|rfl)<;>rfl
theorem iW.ofRow{w:World}{mb ob po:Nat}{s:Sd}(h:w.heap[mb]? =some (.cells (Ns (some ⟨ob,po,none⟩) s) 149 (0,0))):iW w mb ob po s (.slice none 0 0) (.slice none 0 0):=h
section
variable {P:Program} {Q:Exit->Act->World->Prop} {S:World->Prop}
theorem cK{E:Array Oper}(i:Nat){J:Oper}{F:Nat}{D:Array Bool}{a:Act}{w:World}(hr:Region.ready .any E D=[i])(hi:E[i]? =some J)(hg:J.guard=none)
 (ty:TypeId) (x y:Operand) (ho:J.op= .store ty x y) (Z:J.dst=none) (g:Nat) (cells:Array Value) (hx:a.eval x= .pointer (some ⟨g,0,none⟩)) (hy:a.eval y= .agg cells)
 (t:TypeId) (G:Array Value) (O:w.heap[g]? =some (.cells G t (0,0))) (X:(P.info? ty).map (·.size)=some cells.size) (I:G.size=cells.size) (U:cells.all (·.oneCell')=true)
 (Y:S (w.setRow g cells)) (h:wpAnyH P .any E (NoPanic Q) S F (D.setIfInBounds i true) a (w.setRow g cells)):wpAnyH P .any E (NoPanic Q) S (F+1) D a w:=
 vn i hr hi hg (wp_store_row ty x y ho g cells hx hy t G O X I U (by rw[Z];exact⟨Y,h⟩))
theorem eo{o:Oper}{a:Act}{w:World}(ty:TypeId)(x:Operand)(E:o.op= .load ty x)
 (b k:Nat) (I:a.eval x= .pointer (some ⟨b,k,none⟩)) (D:List Value) (d:TypeDesc) (F:∀j v,D[j]? =some v->w.cell? ⟨b,k+j,none⟩=some v)
 (hu:P.underlying ty=some d) (G:dU d=true) (hi:(P.info? ty).map (·.size)=some D.length):(execOp a.eval o).run P w= .ok (.value (.agg D.toArray)) w:=by
 unfold execOp;simp only[E,I,Instr.loadAt,Instr.sureAddr,jD,k_,jE,qg w b k ty D d F hu G hi]
theorem du{o:Oper}{a:Act}{w:World}(ty:TypeId)(x:Operand)(E:o.op= .load ty x)
 (g:Nat) (I:a.eval x= .pointer (some ⟨g,0,none⟩)) (t:TypeId) (D:Array Value) (F:Nat×Nat) (d:TypeDesc) (G:w.heap[g]? =some (.cells D t F))
 (hu:P.underlying ty=some d) (J:dU d=true) (hi:(P.info? ty).map (·.size)=some D.size):(execOp a.eval o).run P w= .ok (.value (.agg D)) w:=by
 unfold execOp;simp only[E,I,Instr.loadAt,Instr.sureAddr,jD,k_,jE,run_loadVar_row w g t ty D F d G hu (by cases d<;>simp_all [dU]) hi]
theorem nu{o:Oper}{a:Act}{w:World}(t u:TypeId)(x:Operand)(D:o.op= .convert t u x)(v r:Value)(E:a.eval x=v)(h:(convert t u v).run P w= .ok r w):
 (execOp a.eval o).run P w= .ok (.value r) w:=by
 unfold execOp;simp_all
end
theorem iW.stand{w:World}{mb ob po:Nat}{s:Sd}{qv ov:Value}(h:iW w mb ob po s qv ov):∀j v,(aY s)[j]? =some v->w.cell? ⟨mb,1+j,none⟩=some v:=by
 intro j v D;unfold iW ey kP at h;rw[World.cell?,h];grind[aY,cX]
section
variable {P:Program} {o:Oper} {a:Act} {w:World} {K:Act->World->Prop} {Q:Exit->Act->World->Prop}
theorem Nt(d:Option Tmp)(E:o.dst=d)(v:Value)(w':World)(D:(execOp a.eval o).run P w= .ok (.value v) w')(h:K (a.put d v) w'):o.wp P a w K Q:=by
 subst E;unfold Oper.wp;rw[D,Oper.upon_value];omega
theorem Co{S:World->Prop}{E:Array Oper}(i j:Nat){G I:Oper}{F:Nat}{D:Array Bool}(Y:Region.ready .any E D=[i,j])(hi:E[i]? =some G)(X:E[j]? =some I)(J:G.guard=none)(O:I.guard=none)
 (Z:G.wp P a w (λa' w'=>S w'/\wpAnyH P .any E (NoPanic Q) S F (D.setIfInBounds i true) a' w') (NoPanic Q))
 (U:I.wp P a w (λa' w'=>S w'/\wpAnyH P .any E (NoPanic Q) S F (D.setIfInBounds j true) a' w') (NoPanic Q)):wpAnyH P .any E (NoPanic Q) S (F+1) D a w:=
 wpAnyH_all Y (by simp) (λk hk=>by
  simp only[dP,hY,h_]at hk
  rcases hk with rfl|rfl
  ·have hw:Region.wanted G (yielded E a.tmps)=true:=by simp[Region.wanted,J]
   simp only[wpOp,hi,hw,aV];simp_all
  have hw:Region.wanted I (yielded E a.tmps)=true:=by simp[Region.wanted,O]
  simp only[wpOp,X,hw,aV]
  exact .inl U)
theorem Be{S:World->Prop}{E:Array Oper}(i j:Nat){U X:Oper}{F:Nat}{D:Array Bool}(G I:Tmp)(v u:Value)(w':World)(Y:G≠I)
 (hr:Region.ready .any E D=[i,j]) (am:Region.ready .any E (D.setIfInBounds i true)=[j]) (aj:Region.ready .any E (D.setIfInBounds j true)=[i])
 (hi:E[i]? =some U) (hj:E[j]? =some X) (O:U.guard=none) (ad:X.guard=none) (Z:U.dst=some G) (aa:X.dst=some I)
 (r1:(execOp a.eval U).run P w= .ok (.value v) w) (r2:(execOp (a.put (some G) v).eval X).run P w= .ok (.value u) w') (r3:(execOp a.eval X).run P w= .ok (.value u) w') (r4:(execOp (a.put (some I) u).eval U).run P w'= .ok (.value v) w')
 (hS:S w) (J:S w') (h:wpAnyH P .any E (NoPanic Q) S F ((D.setIfInBounds i true).setIfInBounds j true) ((a.put (some G) v).put (some I) u) w'):wpAnyH P .any E (NoPanic Q) S (F+1+1) D a w:=by
 refine Co i j hr hi hj O ad ?_ ?_
 ·grind[Nt,vn]
 refine Nt (some I) aa u w' r3 ⟨J,vn i aj hi O (Nt (some G) Z v w' r4 ⟨J,?_⟩)⟩
 have e1:(D.setIfInBounds j true).setIfInBounds i true=(D.setIfInBounds i true).setIfInBounds j true:=by
  grind
 rw[e1,<-Act.put_comm a (x:=some G) (y:=some I) v u (λd hd hd'=>Y ((Option.some.inj hd).trans (Option.some.inj hd').symm))];omega
end
namespace Ch
theorem rounds_succ(ol:Ol)(n:Nat)(m:Ma):rounds ol (n+1) m=if busy ol m then rounds ol n (round ol m)else m:=rfl
theorem DK{ol:Ol}{m:Ma}(h:busy ol m=false):∀n,rounds ol n m=m:=by
 intro n
 cases n with
 |zero=>rfl
 |succ n=>grind[rounds_succ]
end Ch
section
variable (w:World) (B mb ob po:Nat) (ol:Ol)
theorem yw(m:Ma)(n:Nat)(hn:n<=30)(hp:Pl w ob po ol)(ao:ol.Ok)(hm:Mm w B mb ob po m)(hs:m.s.Ok)(hB:B<=w.heap.size)(hz:m.Sz 500000000):
 Calls prog 72 #[.pointer (some ⟨mb,0,none⟩),.int .i64 n] w λx w'=>
  x= .returned (.tuple #[.agg (aY (Ch.finish ol n m).1).toArray,.string (Ch.finish ol n m).2.1,.int .i64 (Ch.finish ol n m).2.2])/\Kp (km B mb w) w w':=by
 obtain⟨ds,aj,kJ⟩:=iM;have a1:=an w (.cells cO 95);have K1:Kp (λ_=>False) w (w.alloc (.cells cO 95)):=(Kp.refl _ _).alloc _;have aI:=hm.still K1;have a0:=hp.az K1 (λ_ _ _ _ _ x=>x);have W4:=hm.lt;clear hp hm
 go_enter func72,ntmps72
 go_wp2_with fail
 generalize w.alloc (.cells cO 95)=w1 at*;generalize a8:w.heap.size=U at*
 go_loopw [7] (λi wr=>∃(k:Nat) (D:Ma),i= .int .i64 k/\k<=n/\Hid (Ch.rounds ol n m=Ch.rounds ol (n-k) D)/\Mm wr B mb ob po D/\D.s.Ok/\D.Sz (500000000+3900000*k)/\Kp (km B mb w1) w1 wr) (λi _=>n-(intOf i).toNat)
 case atStart=>exact⟨0,m,rfl,aG _,af rfl,aI,hs,hz,Kp.refl _ _⟩
 case round=>
  obtain⟨k,D,rfl,hk,HE,F,G,aS,Y⟩:=hrel;have I:=aI.pl Y a0;have J:=aI.at_ Y a1 (by decide) (by decide)
  have a5:B<=wr.heap.size:=by have:=Y.size;have:=K1.size;omega
  have E1:=af (DI wr B mb ob po ol D I ao F G);have HX:=af (ae F (ae I (ae J Y)));clear F I J Y
  by_cases a7:k<n
  ·have a4:(k:Int)<(n:Int):=by omega
   have ef:n-k=(n-(k+1))+1:=by omega
   cases q:Ch.busy ol D with
   |true=>
    rw[q]at E1;have HF:=af (HE.out.trans (show _=Ch.rounds ol (n-(k+1)) (Ch.round ol D)by rw[ef,Ch.rounds_succ,q];rfl));have a2:=DF (ol:=ol) G;have a3:=DG ao aS;clear HE ef
    go_wp2_with fail
    refine b9 E1 ?_;rintro x w2 ⟨rfl,K2⟩;obtain⟨F,I,J,Y⟩:=HX.out;have M2:=F.still K2;have am:=I.az K2 (λ_ _ _ _ _ x=>x);have E2:=af (La w2 B mb ob po ol D am ao M2 G (by have:=K2.size;omega) (aS.le (by omega)));have K3:=Km.trans Y (Kp.km K2);clear F I J Y HX E1 M2 am K2
    go_wp2_with fail
    refine b9 E2 ?_;rintro x O ⟨rfl,M3,K4⟩;have K5:=Km.trans K3 K4;clear E2 K3 K4;go_wp2
    go_roundw
    case rel=>exact⟨k+1,_,by go_num,by omega,HF,M3,a2,a3.le (by omega),K5⟩
    case measure=>simp[intOf];omega
   |false=>?_
   rw[q]at E1
   have HF:=af (show Ch.finish ol n m=(D.s,strOfNums D.out,0)by
    have e:=HE.out.trans (DK q _)
    unfold Ch.finish;rw[e,q];rfl)
   clear HE ef
   go_wp2_with fail
   refine b9 E1 ?_;rintro x w2 ⟨rfl,K2⟩;obtain⟨F,I,J,Y⟩:=HX.out;have M2:=F.still K2;have am:=I.az K2 (λ_ _ _ _ _ x=>x);have Z:=K2.at_ J (λx=>x);have E2:=af (DI w2 B mb ob po ol D am ao M2 G);rw[q]at E2;have K3:=Km.trans Y (Kp.km K2);have HY:=af (ae M2 (ae Z K3));clear F I J Y HX E1 M2 am K2 Z K3
   go_wp2_with fail
   refine b9 E2 ?_;rintro x O ⟨rfl,K4⟩;obtain⟨M2,Z,K3⟩:=HY.out;have M3:=M2.still K4;have X:=K4.at_ Z (λx=>x);have K5:=Km.trans K3 (Kp.km K4);obtain⟨qv,ov,ad,oq,oo,ap⟩:=id M3;clear HY E2 M2 Z K3 K4
   go_upto_region 7 with(fail)
   refine bf (λw'=>iW w' mb ob po D.s qv ov/\dh w' B ov (aD D.out)) (by kernel_rfl) ?_
   have E:iW O.drew mb ob po D.s qv ov/\dh O.drew B ov (aD D.out):=⟨ad,oo⟩
   have Nr:(prog.info? 95).map (·.size)=some (aY D.s).length:=by rw[cP G.1];exact fR
   have aO:mb≠U:=by
    intro e;have h1:O.heap[mb]? =some (.cells _ 149 (0,0)):=ad;rw[e,X]at h1;simp at h1
   have aa:iW (O.drew.setRow U (aY D.s).toArray) mb ob po D.s qv ov/\dh (O.drew.setRow U (aY D.s).toArray) B ov (aD D.out):=by
    have n1:=oo.ne X (by decide);have KR:Kp _ _ (O.drew.setRow U (aY D.s).toArray):=Kp.setRow (S:=λk=>k=U) (Kp.refl _ _) (g:=U) (λ_=>rfl) _;exact⟨ey.az (w:=O.drew) ad KR aO,dh.az (w:=O.drew) oo KR (λi hi x=>by subst x;exact n1 hi)⟩
   have KF:Kp _ _ (O.drew.setRow U (aY D.s).toArray):=((Km.trans (Kp.km K1) K5).drewN 1).setRow (λx=>by omega) _;refine kE 0 22 (.pointer (some ⟨mb,0,none⟩)) rfl (λw' _=>by rfl) E ?_;refine kE 1 23 (.pointer (some ⟨mb,0,none⟩)) rfl (λw' _=>by simp[execOp,Act.eval,Act.put,go_sem]) E ?_;refine kE 2 24 (.pointer (some ⟨mb,1,none⟩)) rfl (λw' _=>by simp[execOp,Act.eval,Act.put,go_sem]) E ?_;refine kE 3 25 (.agg (aY D.s).toArray) rfl (λw' hS=>eo 95 (.tmp 24) rfl mb 1 (by simp[Act.eval,Act.put]) (aY D.s) ds hS.1.stand aj kJ Nr) E ?_;refine kE 4 26 (.pointer (some ⟨mb,0,none⟩)) rfl (λw' _=>by simp[execOp,Act.eval,Act.put,go_sem]) E ?_;refine kE 5 27 (.pointer (some ⟨mb,0,none⟩)) rfl (λw' _=>by simp[execOp,Act.eval,Act.put,go_sem]) E ?_;refine kE 6 28 (.pointer (some ⟨mb,38,none⟩)) rfl (λw' _=>by simp[execOp,Act.eval,Act.put,go_sem]) E ?_;refine tk 7 29 ov rfl (by kernel_rfl) rfl rfl (λw' hS=>by have c:=hS.1.out G.1;simp[execOp,Act.eval,Act.put,go_sem,c]) E ?_;refine kE 8 30 (.string (strOfNums D.out)) rfl (λw' hS=>nu 47 9 (.tmp 29) rfl ov _ (by simp[Act.eval,Act.put]) (lQ hS.2)) E ?_;refine cK 9 (by kernel_rfl) rfl rfl 95 (.tmp 4) (.tmp 25) rfl rfl U (aY D.s).toArray (by simp[Act.eval,Act.put]) (by simp[Act.eval,Act.put]) 95 cO (by exact X) (iT G.1) (by rw[jQ G.1];rfl) (oh _) aa ?_;refine kE 10 5 (.string (strOfNums D.out)) rfl (λw' _=>by simp[execOp,Act.eval,Act.put,go_sem]) aa ?_;refine kE 11 6 (.int .i64 0) rfl (λw' _=>by rfl) aa ?_;refine bF (by kernel_rfl) (bG ?_) _;simp only[Act.put,pA,pB,pC];go_wp2;refine bg (bB rfl _ _ U 95 (aY D.s).toArray (0,0) ds rfl (ax O.drew _ _ _ _ _ (by exact X)) aj kJ (iT G.1)) rfl ?_;rw[HF.out];exact⟨rfl,KF⟩
  have a6:¬(k:Int)<(n:Int):=by omega
  have ek:n-k=0:=by omega
  cases q:Ch.busy ol D with
  |true=>
   rw[q]at E1
   have HF:=af (show Ch.finish ol n m=(wh,ByteArray.empty,9)by
    have e:Ch.rounds ol n m=D:=HE.out.trans (by rw[ek];rfl)
    unfold Ch.finish;rw[e,q];rfl)
   clear HE ek
   go_wp2_with fail
   refine b9 E1 ?_;rintro x w2 ⟨rfl,K2⟩;obtain⟨F,I,J,Y⟩:=HX.out;have Z:=K2.at_ J (λx=>x);have K3:=Km.trans (Kp.km K1) (Km.trans Y (Kp.km K2));have KF:Kp _ _ (w2.setRow U cO):=K3.setRow (λx=>by omega) _;clear F I J Y HX E1 K2 K3
   go_wp2_with (refine cj cO Z fR rfl UL ?_)
   refine bg (bB rfl _ _ U 95 cO (0,0) ds rfl (ax _ _ _ _ _ _ Z) aj kJ fR) rfl ?_;rw[HF.out];exact⟨rfl,KF⟩
  |false=>?_
  rw[q]at E1
  have HF:=af (show Ch.finish ol n m=(D.s,strOfNums D.out,0)by
   have e:Ch.rounds ol n m=D:=HE.out.trans (by rw[ek];rfl)
   unfold Ch.finish;rw[e,q];rfl)
  clear HE ek
  go_wp2_with fail
  refine b9 E1 ?_;rintro x O ⟨rfl,K4⟩;obtain⟨F,I,J,Y⟩:=HX.out;have M3:=F.still K4;have X:=K4.at_ J (λx=>x);have K5:=Km.trans Y (Kp.km K4);obtain⟨qv,ov,ad,oq,oo,ap⟩:=id M3;clear HX E1 F I J Y K4
  go_upto_region 7 with(fail)
  refine bf (λw'=>iW w' mb ob po D.s qv ov/\dh w' B ov (aD D.out)) (by kernel_rfl) ?_
  have E:iW O.drew mb ob po D.s qv ov/\dh O.drew B ov (aD D.out):=⟨ad,oo⟩
  have Nr:(prog.info? 95).map (·.size)=some (aY D.s).length:=by rw[cP G.1];exact fR
  have aO:mb≠U:=by
   intro e;have h1:O.heap[mb]? =some (.cells _ 149 (0,0)):=ad;rw[e,X]at h1;simp at h1
  have aa:iW (O.drew.setRow U (aY D.s).toArray) mb ob po D.s qv ov/\dh (O.drew.setRow U (aY D.s).toArray) B ov (aD D.out):=by
   have n1:=oo.ne X (by decide);have KR:Kp _ _ (O.drew.setRow U (aY D.s).toArray):=Kp.setRow (S:=λk=>k=U) (Kp.refl _ _) (g:=U) (λ_=>rfl) _;exact⟨ey.az (w:=O.drew) ad KR aO,dh.az (w:=O.drew) oo KR (λi hi x=>by subst x;exact n1 hi)⟩
  have KF:Kp _ _ (O.drew.setRow U (aY D.s).toArray):=((Km.trans (Kp.km K1) K5).drewN 1).setRow (λx=>by omega) _;refine kE 0 22 (.pointer (some ⟨mb,0,none⟩)) rfl (λw' _=>by rfl) E ?_;refine kE 1 23 (.pointer (some ⟨mb,0,none⟩)) rfl (λw' _=>by simp[execOp,Act.eval,Act.put,go_sem]) E ?_;refine kE 2 24 (.pointer (some ⟨mb,1,none⟩)) rfl (λw' _=>by simp[execOp,Act.eval,Act.put,go_sem]) E ?_;refine kE 3 25 (.agg (aY D.s).toArray) rfl (λw' hS=>eo 95 (.tmp 24) rfl mb 1 (by simp[Act.eval,Act.put]) (aY D.s) ds hS.1.stand aj kJ Nr) E ?_;refine kE 4 26 (.pointer (some ⟨mb,0,none⟩)) rfl (λw' _=>by simp[execOp,Act.eval,Act.put,go_sem]) E ?_;refine kE 5 27 (.pointer (some ⟨mb,0,none⟩)) rfl (λw' _=>by simp[execOp,Act.eval,Act.put,go_sem]) E ?_;refine kE 6 28 (.pointer (some ⟨mb,38,none⟩)) rfl (λw' _=>by simp[execOp,Act.eval,Act.put,go_sem]) E ?_;refine tk 7 29 ov rfl (by kernel_rfl) rfl rfl (λw' hS=>by have c:=hS.1.out G.1;simp[execOp,Act.eval,Act.put,go_sem,c]) E ?_;refine kE 8 30 (.string (strOfNums D.out)) rfl (λw' hS=>nu 47 9 (.tmp 29) rfl ov _ (by simp[Act.eval,Act.put]) (lQ hS.2)) E ?_;refine cK 9 (by kernel_rfl) rfl rfl 95 (.tmp 4) (.tmp 25) rfl rfl U (aY D.s).toArray (by simp[Act.eval,Act.put]) (by simp[Act.eval,Act.put]) 95 cO (by exact X) (iT G.1) (by rw[jQ G.1];rfl) (oh _) aa ?_;refine kE 10 5 (.string (strOfNums D.out)) rfl (λw' _=>by simp[execOp,Act.eval,Act.put,go_sem]) aa ?_;refine kE 11 6 (.int .i64 0) rfl (λw' _=>by rfl) aa ?_;refine bF (by kernel_rfl) (bG ?_) _;simp only[Act.put,pA,pB,pC];go_wp2;refine bg (bB rfl _ _ U 95 (aY D.s).toArray (0,0) ds rfl (ax O.drew _ _ _ _ _ (by exact X)) aj kJ (iT G.1)) rfl ?_;rw[HF.out];exact⟨rfl,KF⟩
end
theorem Cp{B mb:Nat}{D w w':World}(E:Kp (λ_=>False) D w)(k:Kp (km B mb w) w w')(hB:D.heap.size<=B)(hm:D.heap.size<=mb):Kp (λ_=>False) D w':=
 E.trans' k (λi hi x=>by rcases x with x|⟨x,_⟩<;>omega)
theorem Mm.new{w:World}{B mb ob po:Nat}{s:Sd}(h:w.heap[mb]? =some (.cells (Ns (some ⟨ob,po,none⟩) s) 149 (0,0))):Mm w B mb ob po ⟨s,[],[]⟩:=
 ⟨.slice none 0 0,.slice none 0 0,iW.ofRow h,.inl ⟨rfl,rfl⟩,.inl ⟨rfl,rfl⟩,λi hi=>by simp[Value.ownBlock]at hi⟩
theorem Rm(ol:Ol):wZ ol []:=by intro n D;simp at D
namespace Ch
theorem Lb{ol:Ol}:∀(n:Nat) {m:Ma},m.s.Ok->(rounds ol n m).s.Ok:=by
 intro n
 induction n with
 |zero=>intro m h;exact h
 |succ n D=>?_
 grind[rounds_succ,DF]
theorem Rn:wh.Ok:=⟨QW,by simp[wh],by simp[wh]⟩
theorem tH{ol:Ol}{m:Ma}(h:m.s.Ok)(n:Nat):(finish ol n m).1.Ok:=by
 grind[finish,Rn,Lb]
theorem Bf{ol:Ol}{m:Ma}(h:m.s.Ok)(n:Nat):(finish ol n m).1.Wf:=(tH h n).1
end Ch
section
variable (w:World) (ob po:Nat) (ol:Ol)
theorem GW(hp:Pl w ob po ol)(O:ol.Ok):
 Calls prog 43 #[.pointer (some ⟨ob,po,none⟩)] w λx w'=>
  x= .returned (.tuple #[.agg (aY (df ol).1).toArray,.string (df ol).2.1,.int .i64 (df ol).2.2])/\Kp (λ_=>False) w w':=by
 obtain⟨ds,ap,kJ⟩:=iM;have Y:=om ol.ai;have eD:=q_ ol.ai;have HB:=af (yu (some ⟨ob,po,none⟩) (cS ol.ai) Y);have am:=an w (.cells cO 95);have K1:Kp (λ_=>False) w (w.alloc (.cells cO 95)):=(Kp.refl _ _).alloc _;have U:=hp.az K1 (λ_ _ _ _ _ x=>x);have E0:=af (Ko ob po (w.alloc (.cells cO 95)) ol.ai U.str);have HU:=af (show df ol=Ch.finish ol 30 (Ch.enter ol ⟨cS ol.ai,[],[]⟩ [])from rfl);have mI:=DJ (some ⟨ob,po,none⟩) Y;have mS:=yv (some ⟨ob,po,none⟩) Y;have mO:=Jp (some ⟨ob,po,none⟩) (cS ol.ai);clear hp
 go_enter func43,ntmps43
 go_wp2_with fail
 refine b9 E0 ?_;rintro x I ⟨rfl,K2⟩;have X:=K2.at_ am (λx=>x);have aj:=U.az K2 (λ_ _ _ _ _ x=>x);have KA:=K1.trans K2;have aI:=aR X;have E:=an I (.cells Ad 149);have ad:=ax (I.alloc (.cells Ad 149)) I.heap.size Ad (Ns (some ⟨ob,po,none⟩) (cS ol.ai)) 149 (0,0) E;have K3:Kp (λ_=>False) I ((I.alloc (.cells Ad 149)).setRow I.heap.size (Ns (some ⟨ob,po,none⟩) (cS ol.ai))):=((Kp.refl _ _).alloc _).setRow (λx=>by omega) _;have J:=Mm.new (B:=w.heap.size) ad;have D:=aj.az K3 (λ_ _ _ _ _ x=>x);have F:=K3.at_ X (λx=>x);have KB:=KA.trans K3;clear am U X aj K1 K2 KA K3 E0 ad;generalize (aY (cS ol.ai)).toArray=BL at*;generalize Ns (some ⟨ob,po,none⟩) (cS ol.ai)=MA at*
 go_wp2_with (first|(refine jc rfl 149 #[(0,.tmp 6),(1,.tmp 8)] rfl MA [(0,.pointer (some ⟨ob,po,none⟩)),(1,.agg BL)] ?_ HB.out ?_;rfl)|refine cj MA E mI (by rw[mS];rfl) mO ?_)
 generalize (I.alloc (.cells Ad 149)).setRow I.heap.size MA=w3 at*;generalize I.heap.size=mb at*;have ao:=KB.size;have E1:=af (Bc w3 w.heap.size mb ob po ol ⟨cS ol.ai,[],[]⟩ (.slice none 0 0) [] ⟨0,bT _ _ _ _⟩ (Rm ol) (by simp) D O J eD ao ⟨by simp,by simp⟩);have W5:=sG (ol:=ol) (m:=⟨cS ol.ai,[],[]⟩) eD [];have Y4:=vl O (m:=⟨cS ol.ai,[],[]⟩) (n:=0) ⟨by simp,by simp⟩ [];have HX:=af (ae J (ae D (ae F KB)));clear E mI mS mO HB J D F KB
 go_wp2_with fail
 refine b9 E1 ?_;rintro x w4 ⟨rfl,M4,K4⟩;obtain⟨J,D,F,KB⟩:=HX.out;have xB:=J.pl K4 D;have G:=J.at_ K4 F (by decide) (by decide);have Z:=Cp KB K4 (aC _) (by omega);generalize Tw:Ch.enter ol ⟨cS ol.ai,[],[]⟩ []=m4 at*;have Y7:=af Tw;clear Tw;have E2:=af (yw w4 w.heap.size mb ob po ol m4 30 (by omega) xB O M4 W5 Z.size (Y4.le (by omega)));have HY:=af (ae M4 (ae G Z));clear J D F KB HX K4 E1 xB M4 G Z
 go_wp2_with fail
 refine b9 E2 ?_;rintro x w5 ⟨rfl,K5⟩;obtain⟨M4,G,Z⟩:=HY.out;have oW:=M4.at_ K5 G (by decide) (by decide);have KD:=Cp Z K5 (aC _) (by omega);clear M4 G Z HY K5 E2;generalize hf:Ch.finish ol 30 m4=fr at*;obtain⟨fs,ft,fe⟩:=fr
 have aa:fs.Wf:=by
  have:(Ch.finish ol 30 m4).1=fs:=by rw[hf]
  rw[<-this];exact Bf W5 _
 have HF:=af hf;clear hf;have fI:=iT aa;have fS:=jQ aa;have fO:=oh fs;have KF:Kp _ _ (w5.setRow w.heap.size (aY fs).toArray):=KD.setRow (λx=>by omega) _;simp only;generalize DL:(aY fs).toArray=FA at*;have HA:=af DL;clear DL
 go_wp2_with (refine cj FA oW fI (by rw[fS];rfl) fO ?_)
 refine bg (bB rfl _ _ w.heap.size 95 FA (0,0) ds rfl (ax _ _ _ _ _ _ oW) ap kJ fI) rfl ?_
 first|rw[HU.out,Y7.out,HF.out,<-HA.out]|rw[HU.out,HF.out,<-HA.out]|rw[HU.out,<-HA.out]
 exact⟨rfl,by rw[HA.out];exact KF⟩
theorem Bg(s:Sd)(ev:Int)(eD:s.Ok)(hp:Pl w ob po ol)(G:ol.Ok):
 Calls prog 57 #[.pointer (some ⟨ob,po,none⟩),.agg (aY s).toArray,.int .u8 ev] w λx w'=>
  x= .returned (.tuple #[.agg (aY (b_ ol s ev).1).toArray,.string (b_ ol s ev).2.1,.int .i64 (b_ ol s ev).2.2])/\Kp (λ_=>False) w w':=by
 obtain⟨ds,am,kJ⟩:=iM;have J:=eD.1;have HB:=af (yu (some ⟨ob,po,none⟩) s J);have HU:=af (show b_ ol s ev=Ch.finish ol 29 (dC ol ⟨s,[],[]⟩ (Ch.choose ol s ev))from rfl);have mI:=DJ (some ⟨ob,po,none⟩) J;have mS:=yv (some ⟨ob,po,none⟩) J;have mO:=Jp (some ⟨ob,po,none⟩) s;have sI:=iT J
 have ad:((w.alloc (.cells (aY s).toArray 95)).alloc (.cells cO 95)).heap[w.heap.size]? =some (.cells (aY s).toArray 95):=by
  rw[cQ _ _ _ (by simp)];exact an _ _
 have aS:((w.alloc (.cells (aY s).toArray 95)).alloc (.cells cO 95)).heap[w.heap.size+1]? =_:=nV w _ _;have K1:Kp (λ_=>False) w ((w.alloc (.cells (aY s).toArray 95)).alloc (.cells cO 95)):=((Kp.refl _ _).alloc _).alloc _
 have a5:w.heap.size+1<((w.alloc (.cells (aY s).toArray 95)).alloc (.cells cO 95)).heap.size:=by simp
 have aO:=hp.az K1 (λ_ _ _ _ _ x=>x);obtain⟨a2,a4⟩:=kS ol s ev;have An:=G.ai;clear hp;generalize Ao:(aY s).toArray=SA at*;generalize aa:Ns (some ⟨ob,po,none⟩) s=MA at*;have a1:=af aa;clear Ao aa
 go_enter func57,ntmps57
 go_upto_region 1 with(fail)
 generalize (w.alloc (.cells SA 95)).alloc (.cells cO 95)=O at*;have F:=an O (.cells Ad 149);have aI:=ax (O.alloc (.cells Ad 149)) O.heap.size Ad MA 149 (0,0) F;have K3:Kp (λ_=>False) O ((O.alloc (.cells Ad 149)).setRow O.heap.size MA):=((Kp.refl _ _).alloc _).setRow (λx=>by omega) _;have U:Mm _ w.heap.size _ _ _ _:=Mm.new (by rw[a1.out];exact aI);have D:=aO.az K3 (λ_ _ _ _ _ x=>x);have E:=K3.at_ aS (λx=>x);have KB:=K1.trans K3;have HX:=af (ae U (ae D (ae E KB)));clear aS aO K1 K3 aI U D E KB
 go_wp2_with (first|refine jO ad am kJ sI ?_|(refine jc rfl 149 #[(0,.tmp 11),(1,.tmp 12)] rfl MA [(0,.pointer (some ⟨ob,po,none⟩)),(1,.agg SA)] ?_ HB.out ?_;rfl)|refine cj MA F mI (by rw[mS];rfl) mO ?_)
 generalize (O.alloc (.cells Ad 149)).setRow O.heap.size MA=w3 at*;generalize O.heap.size=mb at*;obtain⟨U,D,E,KB⟩:=HX.out;obtain⟨qv,ov,ap,_⟩:=id U;have E0:=af (oy w3 mb ob po s qv ov ol ev ap J D G);clear F mI mS mO HB U D E KB ad sI ap
 go_wp2_with fail
 refine b9 E0 ?_;rintro x w4 ⟨v4,rfl,h4,K4⟩;obtain⟨U,D,E,KB⟩:=HX.out;have X:=U.still K4;have xB:=D.az K4 (λ_ _ _ _ _ x=>x);have I:=K4.at_ E (λx=>x);have Y:=KB.trans K4;generalize aj:Ch.choose ol s ev=list at*;have a0:=af aj;clear aj;have E1:=af (qu w4 w.heap.size mb ob po ol ⟨s,[],[]⟩ v4 list h4 a2 (by omega) xB G X eD Y.size ⟨by simp,by simp⟩);have W6:=sJ (ol:=ol) (m:=⟨s,[],[]⟩) eD list;have a3:=qq G (m:=⟨s,[],[]⟩) (n:=0) ⟨by simp,by simp⟩ (list:=list) (by omega);have HY:=af (ae X (ae xB (ae I Y)));clear U D E KB HX K4 E0 X xB I Y h4
 go_wp2_with fail
 refine b9 E1 ?_;rintro x w5 ⟨rfl,M5,K5⟩;obtain⟨X,xB,I,Y⟩:=HY.out;have Tx:=X.pl K5 xB;have oW:=X.at_ K5 I (by decide) (by decide);have Z:=Cp Y K5 (aC _) (by omega);generalize Tw:dC ol ⟨s,[],[]⟩ list=m4 at*;have Y7:=af Tw;clear Tw;have E2:=af (yw w5 w.heap.size mb ob po ol m4 29 (by omega) Tx G M5 W6 Z.size (a3.le (by omega)));have HZ:=af (ae M5 (ae oW Z));clear X xB I Y HY K5 E1 Tx M5 oW Z
 go_wp2_with fail
 refine b9 E2 ?_;rintro x w6 ⟨rfl,K6⟩;obtain⟨M5,oW,Z⟩:=HZ.out;have vV:=M5.at_ K6 oW (by decide) (by decide);have KE:=Cp Z K6 (aC _) (by omega);clear M5 oW Z HZ K6 E2;generalize hf:Ch.finish ol 29 m4=fr at*;obtain⟨fs,ft,fe⟩:=fr
 have ao:fs.Wf:=by
  have:(Ch.finish ol 29 m4).1=fs:=by rw[hf]
  rw[<-this];exact Bf W6 _
 have HF:=af hf;clear hf;have fI:=iT ao;have fS:=jQ ao;have fO:=oh fs;have KF:Kp _ _ (w6.setRow (w.heap.size+1) (aY fs).toArray):=KE.setRow (λx=>by omega) _;simp only;generalize DL:(aY fs).toArray=FA at*;have HA:=af DL;clear DL
 go_wp2_with (refine cj FA vV fI (by rw[fS];rfl) fO ?_)
 refine bg (bB rfl _ _ (w.heap.size+1) 95 FA (0,0) ds rfl (ax _ _ _ _ _ _ vV) am kJ fI) rfl ?_
 first|rw[HU.out,a0.out,Y7.out,HF.out,<-HA.out]|rw[HU.out,Y7.out,HF.out,<-HA.out]|rw[HU.out,HF.out,<-HA.out]|rw[HU.out,<-HA.out]
 exact⟨rfl,by rw[HA.out];exact KF⟩
end
namespace Ch
def sK(t:ByteArray):List Int:=t.data.toList.map λb=>(b.toNat:Int)
theorem vo(t:ByteArray):(sK t).length=t.size:=by simp[sK]
def eb(ol:Ol):Nat->Sd->List Int->Option (Sd×ByteArray)
 |0,_,_=>none
 |f+1,s,l=>if(bQ s).2.1 then(if(b_ ol (bQ s).2.2 (bQ s).1).2.2==0 then eb ol f (b_ ol (bQ s).2.2 (bQ s).1).1 (l++sK (b_ ol (bQ s).2.2 (bQ s).1).2.1)
  else eb ol f (bQ s).2.2 l)else some ((bQ s).2.2,strOfNums l)
theorem Bh{ol:Ol}(D:ol.Ok):∀(n:Nat) {m:Ma} {k:Nat},m.Sz k->(rounds ol n m).Sz (k+3900000*n):=by
 intro n
 induction n with
 |zero=>intro m k h;exact h
 |succ n E=>?_
 intro m k h;rw[rounds_succ]
 split
 ·exact(E (DG D h)).le (by omega)
 exact h.le (by omega)
theorem kL{ol:Ol}(D:ol.Ok)(s:Sd)(ev:Int):(b_ ol s ev).2.1.size<=117000000:=by
 have E:=qq D (m:=⟨s,[],[]⟩) (n:=0) ⟨by simp,by simp⟩ (kT D s ev);have F:=Bh D 29 E;unfold b_ finish
 split
 ·simp
 show(strOfNums _).size<=_;rw[cC];have:=F.2;omega
theorem qw{ol:Ol}{s:Sd}(h:s.Ok)(ev:Int):(b_ ol s ev).1.Ok:=tH (sJ (m:=⟨s,[],[]⟩) h _) _
theorem Cq(t:ByteArray):∀(f k j:Nat),kK t f k=some j->k<=j/\j+1<t.size:=by
 intro f
 induction f with
 |zero=>grind[kK]
 |succ f D=>?_
 grind[kK]
theorem uB{s:Sd}(h:s.Ok):(bQ s).2.2.Ok:=by
 unfold bQ
 split
 ·rename_i k hk
  obtain⟨D,E,F⟩:=h;refine⟨D,E,?_⟩;simp_all<;>omega
 omega
theorem Oe(t:ByteArray):∀(f k:Nat) (acc:List Int),acc.length<=k->k<=t.size->(sx t f k acc).length<=t.size:=by
 intro f
 induction f with
 |zero=>grind[sx]
 |succ f D=>?_
 grind[sx]
theorem xP{s:Sd}(h:s.Ok):(tick s).Ok:=by
 obtain⟨D,E,F⟩:=h;refine⟨D,E,?_⟩;show(strOfNums (sx s.tm s.tm.size 0 [])).size<=17;rw[cC];grind[Oe]
end Ch
theorem Ap(t:ByteArray):Go.Lib.strCells t=aD (sK t):=by
 simp[Go.Lib.strCells,aD,sK]
theorem ey.sM{w:World}{b:Nat}{s:Sd}{T:TypeId}(h:ey w b [] s [] T):w.heap[b]? =some (.cells (aY s).toArray T (0,0)):=by
 grind[ey,kP,aY]
theorem ey.Cr{w:World}{b:Nat}{s:Sd}{T:TypeId}(h:w.heap[b]? =some (.cells (aY s).toArray T (0,0))):ey w b [] s [] T:=by
 unfold ey kP;simpa[aY]using h
section
variable (w:World) (ob po:Nat) (ol:Ol)
theorem Lc(s:Sd)(n:Nat)(r:Sd×ByteArray)(hr:eb ol n (Ch.tick s) []=some r)(hn:n<=1000)(a1:∀k,k<s.tm.size->1<=ag s.tm k)(eD:s.Ok)(hp:Pl w ob po ol)(a3:ol.Ok):
 Calls prog 77 #[.pointer (some ⟨ob,po,none⟩),.agg (aY s).toArray] w λx w'=>
  x= .returned (.tuple #[.agg (aY r.1).toArray,.string r.2])/\Kp (λ_=>False) w w':=by
 obtain⟨ds,aa,kJ⟩:=iM;obtain⟨i0,hi,bc,be,bi⟩:=bY su;have aI:=eD.1;have sI:=iT aI;have sS:=jQ aI;have sO:=oh s
 have aS:((w.alloc (.cells (aY s).toArray 95)).alloc (.cells cO 95)).heap[w.heap.size]? =some (.cells (aY s).toArray 95):=by
  rw[cQ _ _ _ (by simp)];exact an _ _
 have a5:((w.alloc (.cells (aY s).toArray 95)).alloc (.cells cO 95)).heap[w.heap.size+1]? =_:=nV w _ _;have K1:Kp (λ_=>False) w ((w.alloc (.cells (aY s).toArray 95)).alloc (.cells cO 95)):=((Kp.refl _ _).alloc _).alloc _
 have br:w.heap.size+1<((w.alloc (.cells (aY s).toArray 95)).alloc (.cells cO 95)).heap.size:=by simp
 have a4:=hp.az K1 (λ_ _ _ _ _ x=>x);clear hp;generalize Ao:(aY s).toArray=SA at*;have Of:=af Ao;clear Ao;have HR:=af hr;clear hr
 go_enter func77,ntmps77
 go_upto_region 1 with(fail)
 generalize (w.alloc (.cells SA 95)).alloc (.cells cO 95)=w2 at*;have D:=an w2 (.cells cO 95);have a0:=ax (w2.alloc (.cells cO 95)) w2.heap.size cO SA 95 (0,0) D;have K3:Kp (λ_=>False) w2 ((w2.alloc (.cells cO 95)).setRow w2.heap.size SA):=((Kp.refl _ _).alloc _).setRow (λx=>by omega) _;have lC:=ey.Cr (by rw[Of.out];exact a0);have J:=a4.az K3 (λ_ _ _ _ _ x=>x);have U:=K3.at_ a5 (λx=>x);have KB:=K1.trans K3;have HX:=af (ae lC (ae J (ae U KB)));clear a5 a4 K1 K3 a0 lC J U KB
 go_wp2_with (first|refine jO aS aa kJ sI ?_|refine cj SA D sI (by rw[sS];rfl) sO ?_)
 generalize (w2.alloc (.cells cO 95)).setRow w2.heap.size SA=w3 at*;generalize w2.heap.size=nb at*;obtain⟨lC,J,U,KB⟩:=HX.out;have E0:=af (NS w3 nb 0 [] s [] 95 lC aI rfl (by have:=eD.2.2;omega) a1);clear D sI sS sO aS lC J U KB a1
 go_wp2_with fail
 refine hm E0 ?_;rintro x w4 ⟨rfl,h4,K4⟩;obtain⟨lC,J,U,KB⟩:=HX.out;have xB:=J.az K4 (λi Z T hi hT x=>by subst x;rw[ey.sM lC]at hi;simp at hi;obtain⟨_,rfl⟩:=hi;revert hT;unfold QY oT;decide);have ba:=K4.at_ U (λx=>by omega);have KC:=KB.trans' K4 (λi hi x=>by omega);have bm:=h4.lt;have a2:=xP eD;clear lC J U KB HX E0 K4 Of;generalize Ch.tick s=s1 at*
 have WK:∀Z T,w4.heap[nb]? =some (.cells Z T (0,0))->T=95:=by
  intro Z T h;rw[ey.sM h4]at h;simp at h;exact h.2.symm
 go_wp2_with fail
 go_loopg [7] n (λgk ov wr=>∃(s':Sd) (l:List Int),Hid (eb ol n s1 []=eb ol gk s' l)/\ey wr nb [] s' [] 95/\s'.Ok/\wr.ownsRow w4.heap.size 5 1 ov l.length (aD l)/\gk<=n/\l.length<=117000000*(n-gk)/\Kp (λk=>k=nb) w4 wr)
 case atStart=>exact⟨s1,[],af rfl,h4,a2,bT _ _ _ _,aC _,by simp,Kp.refl _ _⟩
 case round=>
  obtain⟨s',l,HE,am,ap,E,bo,a8,Y⟩:=hrel
  obtain⟨k,rfl⟩:∃k,gk=k+1:=by
   cases gk with
   |zero=>have:=HE.out.symm.trans HR.out;simp[eb]at this
   |succ k=>exact⟨k,rfl⟩
  have O:=xB.az Y (λi Z T hi hT x=>by subst x;have:=WK _ _ hi;subst this;revert hT;unfold QY oT;decide);have G:=Y.at_ ba (λx=>by omega);have E1:=af (Du wr nb 0 [] s' [] 95 am ap.1 rfl (by have:=ap.2.2;omega));have I:=uB ap
  have step:eb ol (k+1) s' l=if(bQ s').2.1 then(if(b_ ol (bQ s').2.2 (bQ s').1).2.2==0 then eb ol k (b_ ol (bQ s').2.2 (bQ s').1).1 (l++sK (b_ ol (bQ s').2.2 (bQ s').1).2.1)
   else eb ol k (bQ s').2.2 l)else some ((bQ s').2.2,strOfNums l):=rfl
  have HX:=af (ae O (ae G (ae Y E)));have HN:=af am;clear O G Y am E h4;generalize bQ s'=td at*;obtain⟨ev,ok,F⟩:=td;simp only at I step E1
  cases ok with
  |false=>
   have HF:=af (show r=(F,strOfNums l)by
    have e:=HR.out.symm.trans (HE.out.trans step)
    simpa using e)
   clear HE step
   go_wp2_with fail
   refine hm E1 ?_;rintro x X ⟨rfl,h5,K5⟩;obtain⟨O,G,Y,E⟩:=HX.out;have oW:=K5.at_ G (λx=>by omega);have ri:=K5.owns E (λi hi x=>by have:=(E.lt i hi).1;omega);have KD:=Y.trans K5;have ao:=dh.ofRow ri (aC _);clear HX E1 O G Y E K5
   go_upto_region 6 with(fail)
   have Nr:=iT I.1;have n1:=ao.ne oW (by decide)
   have a9:nb≠w.heap.size+1:=by omega
   have aj:ey X.drew nb [] F [] 95/\dh X.drew w4.heap.size u7 (aD l):=⟨h5,ao⟩
   have KR:Kp _ _ (X.drew.setRow (w.heap.size+1) (aY F).toArray):=Kp.setRow (S:=λk=>k=w.heap.size+1) (Kp.refl _ _) (g:=w.heap.size+1) (λ_=>rfl) _
   have aO:ey (X.drew.setRow (w.heap.size+1) (aY F).toArray) nb [] F [] 95/\dh (X.drew.setRow (w.heap.size+1) (aY F).toArray) w4.heap.size u7 (aD l):=
    ⟨ey.az (w:=X.drew) h5 KR a9,dh.az (w:=X.drew) ao KR (λi hi x=>by subst x;exact n1 hi)⟩
   have KF:Kp _ _ (X.drew.setRow (w.heap.size+1) (aY F).toArray):=((KC.trans' KD (λi hi x=>by omega)).drewN 1).setRow (λx=>by omega) _;refine bf (λw'=>ey w' nb [] F [] 95/\dh w' w4.heap.size u7 (aD l)) (by kernel_rfl) ?_;refine kE 0 21 (.agg (aY F).toArray) rfl (λw' hS=>du 95 (.tmp 6) rfl nb (by simp[Act.eval]) 95 _ (0,0) ds hS.1.sM aa kJ Nr) aj ?_;refine tk 1 22 u7 rfl (by kernel_rfl) rfl rfl (λw' _=>by simp[execOp,Act.eval,Act.put,go_sem]) aj ?_;refine kE 2 23 (.string (strOfNums l)) rfl (λw' hS=>nu 47 9 (.tmp 22) rfl u7 _ (by simp[Act.eval,Act.put]) (lQ hS.2)) aj ?_;refine cK 3 (by kernel_rfl) rfl rfl 95 (.tmp 4) (.tmp 21) rfl rfl (w.heap.size+1) (aY F).toArray (by simp[Act.eval,Act.put]) (by simp[Act.eval,Act.put]) 95 cO (by exact oW) Nr (by rw[jQ I.1];rfl) (oh _) aO ?_;refine kE 4 5 (.string (strOfNums l)) rfl (λw' _=>by simp[execOp,Act.eval,Act.put,go_sem]) aO ?_;refine bF (by kernel_rfl) (bG ?_) _;simp only[Act.put,pA,pB,pC];go_wp2;refine oR (ax X.drew _ _ _ _ _ (by exact oW)) aa kJ Nr ?_;rw[HF.out];exact⟨rfl,KF⟩
  |true=>?_
  have tY:=qw (ol:=ol) I ev;have a6:=kL a3 F ev;have sI:=iT I.1;simp only[aV]at step;have HS:=af (HE.out.trans step);clear HE step
  go_wp2_with fail
  refine hm E1 ?_;rintro x X ⟨rfl,h5,K5⟩;obtain⟨O,G,Y,E⟩:=HX.out
  have Tx:Pl X ob po ol:=O.az K5 (λi Z T hi hT x=>by subst x;have h9:=WK;have hb:=Y;exact(by
   have bb:=HN.out
   rw[ey.sM bb]at hi;simp at hi;obtain⟨_,rfl⟩:=hi;revert hT;unfold QY oT;decide))
  have oW:=K5.at_ G (λx=>by omega);have ri:=K5.owns E (λi hi x=>by have:=(E.lt i hi).1;omega);have KD:=Y.trans K5;have rH:=ey.sM h5;have E2:=af (Bg X ob po ol F ev I Tx a3);have HY:=af (ae h5 (ae Tx (ae oW (ae ri KD))));clear HX E1 O G Y E K5 h5 Tx oW ri KD;generalize a7:b_ ol F ev=fr at*;obtain⟨fs,ft,fe⟩:=fr;clear a7;simp only at tY a6 HS E2;generalize (aY F).toArray=SB at*
  go_wp2_with (refine jO rH aa kJ sI ?_)
  refine hm E2 ?_;rintro x w6 ⟨rfl,K6⟩;obtain⟨h5,Tx,oW,ri,KD⟩:=HY.out;have D:=an w6 (.cells cO 95);have fI:=iT tY.1;have fS:=jQ tY.1;have fO:=oh fs;have Jq:=ax (w6.alloc (.cells cO 95)) w6.heap.size cO (aY fs).toArray 95 (0,0) D;have K7:Kp _ _ ((w6.alloc (.cells cO 95)).setRow w6.heap.size (aY fs).toArray):=(K6.alloc _).setRow (λx=>by have:=K6.size;omega) _;have h7:=ey.az h5 K7 (λx=>x);have Y8:=K7.owns ri (λ_ _ x=>x);have KE:=KD.trans' K7 (λi hi x=>x.elim);have Ro:=af (show(aY fs).toArray=(aY fs).toArray from rfl);clear h5 Tx oW ri KD HY E2 K6 K7 rH sI;generalize DL:(aY fs).toArray=FA at*;have HA:=af DL;clear DL Ro
  cases q:fe==0 with
  |true=>
   have HF:=af (show eb ol n s1 []=eb ol k fs (l++sK ft)by rw[HS.out,q];rfl)
   go_upto_region 8 with(refine cj FA D fI (by rw[fS];rfl) fO ?_)
   generalize (w6.alloc (.cells cO 95)).setRow w6.heap.size FA=w7 at*;have ad:=ey.sM h7;have UO:=jQ (s:=F) I.1;have Ty:=ax w7 nb _ FA _ _ ad;have K8:Kp _ _ (w7.setRow nb FA):=Kp.setRow (S:=λk=>k=nb) (Kp.refl _ _) (g:=nb) (λ_=>rfl) _;have h8:=ey.Cr (by rw[HA.out];exact Ty);have Y9:=K8.owns Y8 (λi hi x=>by have:=(Y8.lt i hi).1;omega);have KF:=KE.trans K8;clear h7 Y8 KE K8 Ty;generalize (aY F).toArray=bk at*
   go_wp2_with (first|refine jO Jq aa kJ fI ?_|refine cj FA ad fI (by rw[fS,UO]) fO ?_|(at_builtin;refine Go.Lib.wpList_append_own_string _ rfl (.tmp 35) (.tmp 36) 47 9 rfl w4.heap.size 5 i0 underlying47 underlying9 hi bc be bi u7 l.length (aD l) rfl Y9 ft rfl ?c1 ?c2 ?c3 ?_))
   case c1=>unfold maxLen;omega
   case c2=>omega
   case c3=>have:=KF.size;omega
   intro v9 w9 o9 g9 _;have K9:=KF.grown g9 (λi hi hlt=>by have:=(Y9.lt i hi).1;omega);have h9:=ey.az h8 ((Kp.refl (λi=>u7.ownBlock=some i) _).grown g9 (λi hi _=>hi)) (λx=>by have:=(Y9.lt nb x).1;omega);clear g9 KF h8 Y9 ad Jq;go_wp2
   go_roundg k
   case rel=>exact⟨fs,l++sK ft,HF,h9,tY,by rw[Ap]at o9;simpa[aD,vo]using o9,by omega,by rw[gu,vo,show n-k=(n-(k+1))+1 by omega];omega,K9⟩
   case measure=>omega
  |false=>?_
  have HF:=af (show eb ol n s1 []=eb ol k F l by rw[HS.out,q];rfl)
  go_wp2_with (refine cj FA D fI (by rw[fS];rfl) fO ?_)
  go_roundg k
  case rel=>exact⟨F,l,HF,h7,I,Y8,by omega,bA a8 (Nat.mul_le_mul_left _ (by omega)),KE⟩
  case measure=>omega
end
namespace Ch
theorem Ld(ol:Ol):(df ol).1.Ok:=tH (sG (m:=⟨cS ol.ai,[],[]⟩) (q_ ol.ai) []) _
structure As where
 act:ByteArray
 cd:ByteArray
 tm:ByteArray
 x:Int
 y:Int
 z:Int
def TC:As:=⟨⟨#[]⟩,⟨#[]⟩,⟨#[]⟩,0,0,0⟩
def bV(ss:List St)(s:Sd):As:=⟨jS ss s,jq ss s,s.tm,s.x,s.y,s.z⟩
end Ch
theorem fA{P:Program}{o:Oper}{a:Act}{w:World}(t:TypeId)(parts:Array (Nat×Operand))(E:o.op= .build t parts)
 (cells:Array Value) (D:List (Nat×Value)) (F:parts.toList.map (λp=>(p.1,a.eval p.2))=D) (hb:P.built t D=some cells):(execOp a.eval o).run P w= .ok (.value (.agg cells)) w:=by
 have e:(parts.map λ(i,x)=>(i,a.eval x)).toList=D:=by rw[Array.toList_map];exact F
 unfold execOp;simp only[E,jD,run_build w t _ cells (by rw[e];exact hb),jE,k_]
def dX(a:As):Array Value:=#[.string a.act,.string a.cd,.string a.tm,.int .i64 a.x,.int .i64 a.y,.int .i64 a.z]
theorem eC:(prog.info? 26).map (·.size)=some 6:=by kernel_rfl
theorem sN:∃d,prog.underlying 26=some d/\dU d=true:=⟨_,underlying26,rfl⟩
theorem mU(a:As):(dX a).all (λx=>x.oneCell')=true:=by
 apply gN.2;intro x D;simp only[dX,lZ,dP,hY,h_]at D
 rcases D with rfl|rfl|rfl|rfl|rfl|rfl<;>rfl
theorem Dh.au{w w':World}{B:Nat}{o:Ol}{sv tv bv:Value}{lt:List (Tr×Value)}{lb:List (Bl×Value)}(F:Dh w B o sv tv bv lt lb)(k:Kp (λ_=>False) w w'):Dh w' B o sv tv bv lt lb:=
 ⟨k.owns F.ai (λ_ _ x=>x),F.F9,k.owns F.cW (λ_ _ x=>x),λx hx=>k.owns (F.j_ x hx) (λ_ _ x=>x),F.I8,k.owns F.eR (λ_ _ x=>x),λx hx=>k.owns (F.rY x hx) (λ_ _ x=>x)⟩
theorem Pl.ofRow{w:World}{ob B:Nat}{ol:Ol}{e f:Int}{sv tv bv:Value}{lt:List (Tr×Value)}{lb:List (Bl×Value)}(h:w.heap[ob]? =some (.cells (Nl e f sv tv bv) 87 (0,0)))(F:Dh w B ol sv tv bv lt lb):Pl w ob 0 ol:=
 ⟨sv,tv,bv,lt,lb,B,_,_,⟨h,.inl rfl,rfl,rfl,rfl⟩,F⟩
