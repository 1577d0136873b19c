import Derived.Test.YtnlbchmfcebeeaaGreatTXr
set_option maxHeartbeats 12800000
set_option maxRecDepth 100000
namespace Go.Proofs.YtnlbchmfcebeeaaGreat
open Go.Proofs.Tryz Ch
open Go.RowKit
def sY(l:List NV)(k:Nat):Prop:=l.length<=k/\∀x∈l,x.n.enter.length<=k/\x.n.cA.length<=k/\x.n.trans.length<=k
theorem sY.mono{l:List NV}{k j:Nat}(h:sY l k)(hk:k<=j):sY l j:=⟨by have:=h.1;omega,λx hx=>by have:=h.2 x hx;omega⟩
theorem sY.push{l:List NV}{k:Nat}(h:sY l k){n:RN}(E:n.enter=[]/\n.cA=[]/\n.trans=[]){a b c:Value}:sY (l++[⟨n,a,b,c⟩]) (k+1):=by
 refine⟨by have:=h.1;simp;omega,λx D=>?_⟩
 rcases cB.1 D with D|D
 ·have:=h.2 x D;omega
 simp_all
theorem sY.set{l:List NV}{k j m:Nat}(h:sY l k)(hk:k<=j){y:NV}(E:y.n.enter.length<=j/\y.n.cA.length<=j/\y.n.trans.length<=j):sY (l.set m y) j:=by
 refine⟨by have:=h.1;simp;omega,λx D=>?_⟩
 rcases jV D with D|rfl
 ·have:=h.2 x D;omega
 omega
def aaD(t:ByteArray)(B:Nat)(D:List RN)(G wr:World)(E F:Value):Prop:=
 ∃(k:Nat) (up:Int) (l:List NV) (v:Value),E= .int .i64 up/\F= .int .i64 k/\jW wr B B l v/\im t k up (Ch.mk l) D/\sY l k/\Kp (λi=>B<=i) G wr/\k<=300
def aaE(w':World)(B cb:Nat)(D:List RN):Prop:=∃l v,jW w' B cb l v/\Ch.mk l=D/\sY l 300
theorem jW.behind{w D:World}{B cb:Nat}{l:List NV}{g G cap:Nat}(h:jW w B cb l (.slice (some ⟨g,0,none⟩) G cap)){u:Value}(K:Kp (λi=>u.ownBlock=some i) w D){e:TypeId}{size n:Nat}{xs:List Value}(hu:w.ownsRow B e size u n xs)
 (he:e≠223) (F:e≠219) {k:Nat} {x:NV} (hk:l[k]? =some x):
 D.cell? ⟨cb,0,none⟩=some (.slice (some ⟨g,0,none⟩) G cap)/\(∀j,j<7->D.cell? ⟨g,k*7+j,none⟩=(mr x)[j]?)/\(∀o,D.frozen? ⟨g,o,none⟩=false):=by
 have J:=(aJ.1 hk).1;have I:=K.at_ h.1 (aZ hu h.1 F);have E:=K.owns h.2.1.row (λi hi x=>dp hu h.2.1.row he i x hi);obtain rfl:=vy E;refine⟨by rw[World.cell?,I];rfl,λj hj=>?_,λo=>E.frozenAt o⟩;rw[<-yI l k x hk j hj];exact E.cellAt (k*7+j) (by omega)
def JG(B k:Nat)(up:Int)(l:List NV)(v:Value)(F E:World):Prop:=∃D,jW E B B D v/\Ch.mk D=iD (Ch.mk l) up/\sY D k/\D.length=l.length/\Kp (λi=>B<=i) F E
def BC(l:List NV)(up:Int):Bool:=match uV (Ch.mk l) up with|some n=>n.kind==1|none=>false
theorem BD(l:List NV){up:Int}(h:up<0):BC l up=false:=by
 unfold BC
 cases up with
 |ofNat k=>grind
 |negSucc k=>rfl
theorem ED{l:List NV}{m:Nat}{x:NV}(D:l[m]? =some x):BC l (m:Int)=(x.n.kind==1):=by
 grind[uV,Ch.mk,BC]
theorem Ch.Mg(L:List RN){up:Int}(h:up<0):iD L up=L:=by
 unfold iD
 cases up with
 |ofNat k=>grind
 |negSucc k=>rfl
theorem Ch.Pp{l:List NV}{m:Nat}{x:NV}(D:l[m]? =some x):iD (Ch.mk l) (m:Int)=if x.n.kind==1 then Ch.mk (l.set m {x with n:={x.n with kind:=2}})else Ch.mk l:=by
 grind[uV,Ch.mk,iD,CA]
theorem Ch.Sh(l:List NV)(n:RN)(a b c:Value):Ch.mk (l++[⟨n,a,b,c⟩])=Ch.mk l++[n]:=by simp[Ch.mk]
theorem sY.kind{l:List NV}{k m:Nat}{x:NV}(h:sY l k)(D:l[m]? =some x)(c:Int):sY (l.set m {x with n:={x.n with kind:=c}}) k:=
 h.set (aC _) (h.2 x (aM D))
section
variable (w:World)
theorem Ib(t:ByteArray)(bk:List RN)(ht:t.size<=240)(hR:im t 0 (-1) [] bk):
 Calls prog 194 #[.string t] w λx w'=>x= .returned (.pointer (some ⟨w.heap.size,0,none⟩))/\aaE w' w.heap.size w.heap.size bk/\Kp (λ_=>False) w w':=by
 have hC:jW (w.alloc (.cells #[.slice none 0 0] 219)) w.heap.size w.heap.size [] (.slice none 0 0):=
  ⟨an w _,⟨bT _ _ _ _,by simp,by simp,by simp,by simp,by simp,by simp,by simp⟩,aC _⟩
 have K0:Kp (λ_=>False) w (w.alloc (.cells #[.slice none 0 0] 219)):=(Kp.refl _ _).alloc _
 go_enter func194,ntmps194
 go_upto_region 4 with(fail)
 generalize w.alloc (.cells #[.slice none 0 0] 219)=w1 at*;generalize hB:w.heap.size=B at*
 go_loopw [4,5] (λu4 u5 wr=>Hid (aaD t B bk w1 wr u4 u5)) (λ_ i _=>300-(intOf i).toNat)
 case atStart=>exact af ⟨0,-1,[],.slice none 0 0,rfl,rfl,hC,hR,⟨aG _,by simp⟩,Kp.refl _ _,by omega⟩
 case round=>
  obtain⟨k,up,l,v,rfl,rfl,hF,hN,F,U,cr⟩:=hrel.out;clear hrel;have zc:=hF.cell;have fc:=hF.free 0;have cp:=F.1
  by_cases a1:k<t.size
  ·have cq:(k:Int)<(t.size:Int):=by omega
   obtain⟨c,hc⟩:∃c:Int,(t[k].toNat:Int)=c:=⟨_,rfl⟩
   have ao:=af ((oE a1).trans hc)
   cases qo:dz c with
   |true=>
    obtain⟨b6,ad,I⟩:=hN.open a1 (by rw[ao.out];exact qo);rw[ao.out,oE b6]at I;have E:=af (D0 wr c)
    have b3:(k:Int)+1<(t.size:Int):=by omega
    obtain⟨kd,bt,br⟩:∃kd,eH c=kd/\((c=40/\kd=1)\/(c=91/\kd=3)\/(c=60/\kd=4)\/(c=42/\kd=5)):=by
     rcases nw _ qo with rfl|rfl|rfl|rfl
     ·exact⟨1,rfl,.inl ⟨rfl,rfl⟩⟩
     ·exact⟨3,rfl,.inr (.inl ⟨rfl,rfl⟩)⟩
     ·exact⟨4,rfl,.inr (.inr (.inl ⟨rfl,rfl⟩))⟩
     exact⟨5,rfl,.inr (.inr (.inr ⟨rfl,rfl⟩))⟩
    rw[bt]at E I;have Wj:=af I;have O:=af (ae hF (ae F (ae U ad)));clear hF hN I F U ad bt
    obtain⟨nm,b0⟩:∃nm:Int,((t[k+1]'b6).toNat:Int)=nm:=⟨_,rfl⟩
    have TR:IntKind.i64.wrap ((k:Int)+1)=(k:Int)+1:=fF (by omega)
    have Wl:((k:Int)+1).toNat=k+1:=by omega
    have b4:(0:Int)<=(k:Int)+1:=by omega
    have b2:=af br;have ce:=af qo;clear br qo
    go_upto_region 7 with(fail)
    go_cut [20]from 20 to 21 (λb wx=>b= .bool (c==40)/\wx=wr)
    case first=>
     go_wp2
     go_meet
     exact⟨rfl,rfl⟩
    case rest=>
    obtain⟨rfl,e2⟩:=hcut;rw[e2];clear e2;generalize b1:(c==40)=q0;have HQ:=af b1;clear b1
    go_upto_if 20 with(fail)
    go_cut [20,22]from 22 to 24 (λb _ wx=>b= .bool true/\wx=wr)
    case first=>
     rcases nw _ ce.out with rfl|rfl|rfl|rfl
     all_goals
      obtain rfl:=HQ.out;go_wp2
      go_meet
      exact⟨rfl,rfl⟩
    case rest=>
    obtain⟨rfl,e2⟩:=hcut;rw[e2];clear e2
    go_wp2_with fail
    refine b9 E ?_;rintro y w2 ⟨rfl,e2⟩;rw[e2];clear E e2 w2
    go_upto_region 12 with(fail)
    go_cut [41]from 29 to 40 (λb wx=>b= .bool (BC l up)/\wx=wr)
    case first=>
     obtain⟨hF,F,U,ad⟩:=O.out
     by_cases Y:up<0
     ·have cc:¬(0:Int)<=up:=by omega
      have hM:=af (BD l Y);clear hF F U ad;go_wp2
      go_meet
      rw[hM.out];exact⟨rfl,rfl⟩
     obtain⟨n,hn⟩:=Option.isSome_iff_exists.1 (ad.resolve_left Y);obtain⟨m,x,rfl,Z,rfl,Hi⟩:=yM hn;obtain⟨g,cap,rfl,aI,G,aa⟩:=hF.2.1.form Z;have z1:_=some _:=G 1 (by omega)
     have am:(m:Int)<(l.length:Int):=by omega
     have hM:=af (ED Z);clear hF F U ad hn G aa Y;go_wp2
     go_meet
     rw[hM.out];exact⟨rfl,rfl⟩
    case rest=>
    obtain⟨rfl,rfl⟩:=hcut;generalize bx:BC l up=nb;have bc:=af bx;clear bx
    go_upto_if 41 with(fail)
    go_cut [42]from 42 to 48 (λ_ wx=>JG B k up l v w1 wx)
    case first=>
     obtain⟨hF,F,U,ad⟩:=O.out
     by_cases Y:up<0
     ·have hM:=af (show JG B k up l v w1 wc from⟨l,hF,(Mg _ Y).symm,F,rfl,U⟩)
      obtain rfl:nb=false:=bc.out.symm.trans (BD l Y);clear hF F U ad;go_wp2
      go_meet
      exact hM.out
     obtain⟨n,hn⟩:=Option.isSome_iff_exists.1 (ad.resolve_left Y);obtain⟨m,x,rfl,Z,rfl,Hi⟩:=yM hn;obtain⟨g,cap,rfl,aI,G,aa⟩:=hF.2.1.form Z;have z1:_=some _:=G 1 (by omega);have f1:=aa (m*7+1)
     have am:(m:Int)<(l.length:Int):=by omega
     have a0:=Pp Z;have hq:=ED Z
     cases qk:x.n.kind==1 with
     |true=>
      rw[qk]at a0 hq;have hM:=af (show JG B k (m:Int) l _ w1 (wc.setCell ⟨g,m*7+1,none⟩ (.int .i64 2))from⟨_,hF.Cz Z 2,a0.symm,F.kind Z 2,by simp,U.setCell (p:=⟨g,m*7+1,none⟩) (λ_=>aI) _⟩);obtain rfl:nb=true:=bc.out.symm.trans hq;clear hF F U ad a0 hn G aa Y qk hq;go_wp2
      go_meet
      exact hM.out
     |false=>?_
     rw[qk]at a0 hq;have hM:=af (show JG B k (m:Int) l _ w1 wc from⟨l,hF,a0.symm,F,rfl,U⟩);obtain rfl:nb=false:=bc.out.symm.trans hq;clear hF F U ad a0 hn G aa Y qk hq;go_wp2
     go_meet
     exact hM.out
    case rest=>
     obtain⟨l1,ap,a9,Vf,bi,bm⟩:=hcut;clear zc fc O;have zc:=ap.cell;have aj:=(ap.au ((Kp.refl _ _).alloc (.cells #[.int .u8 nm,.int .i64 kd,.int .i64 up,.int .i64 ((k:Int)+1),.slice none 0 0,.slice none 0 0,.slice none 0 0] 223))).cell;have bb:=ap.low;have ca:=Vf.1;obtain⟨i0,hi,a2,a3,a4⟩:=bY RH;obtain⟨g1,c1,w9,JH,o9,g9,CP⟩:=dV (P:=prog) (wc.drew.alloc (.cells #[.int .u8 nm,.int .i64 kd,.int .i64 up,.int .i64 ((k:Int)+1),.slice none 0 0,.slice none 0 0,.slice none 0 0] 223)) B 217 217 223 i0 (.agg #[.int .u8 0,.int .i64 0,.int .i64 0,.int .i64 0,.slice none 0 0,.slice none 0 0,.slice none 0 0]) 7 104 underlying217 hi a2 a3 a4 rfl (by decide) v l1.length (ir l1) (by exact ap.2.1.row.alloc _) ⟨wc.heap.size,0,none⟩ 1 1 [.int .u8 nm,.int .i64 kd,.int .i64 up,.int .i64 ((k:Int)+1),.slice none 0 0,.slice none 0 0,.slice none 0 0] rfl (by exact fQ _ _ _) (by intro u hu;simp at hu;rcases hu with rfl|rfl|rfl|rfl|rfl<;>rfl) (by decide) (by unfold maxLen;omega) (by omega) (by simp;omega);have K9:Kp _ wc _:=Kp.grown (by exact((Kp.refl _ _).alloc (.cells #[.int .u8 nm,.int .i64 kd,.int .i64 up,.int .i64 ((k:Int)+1),.slice none 0 0,.slice none 0 0,.slice none 0 0] 223)).drew) g9 (λi hi _=>hi);have be:=K9.at_ ap.1 ap.ne
     have y1:w9.cell? ⟨B,0,none⟩=some v:=by rw[World.cell?,be];rfl
     have yf:w9.frozen? ⟨B,0,none⟩=false:=by simp[World.frozen?,be]
     have AF:jW _ _ _ (l1++[⟨⟨nm,kd,up,(k:Int)+1,[],[],[]⟩,.slice none 0 0,.slice none 0 0,.slice none 0 0⟩]) _:=jW.push (w:=(wc.alloc (.cells #[.int .u8 nm,.int .i64 kd,.int .i64 up,.int .i64 ((k:Int)+1),.slice none 0 0,.slice none 0 0,.slice none 0 0] 223)).drew) (ap.au ((Kp.refl (λ_=>False) wc).alloc (.cells #[.int .u8 nm,.int .i64 kd,.int .i64 up,.int .i64 ((k:Int)+1),.slice none 0 0,.slice none 0 0,.slice none 0 0] 223)).drew) (by exact g9) ⟨rfl,rfl,rfl⟩ o9;have KZ:Kp _ _ (w9.setCell ⟨B,0,none⟩ (.slice (some ⟨g1,0,none⟩) (l1.length+1) c1)):=(bm.trans' K9 (λi _ hi=>(ap.2.1.row.lt i hi).1)).setCell (p:=⟨B,0,none⟩) (λ_=>aC _) _;have H9:=af (ae AF (ae KZ (ae a9 (ae (Vf.push (n:=⟨nm,kd,up,(k:Int)+1,[],[],[]⟩) ⟨rfl,rfl,rfl⟩ (a:=.slice none 0 0) (b:=.slice none 0 0) (c:=.slice none 0 0)) bi))));clear o9 g9 CP K9 be AF KZ ap a9 Vf bm
     go_upto_region 14 with(fail)
     refine bf (λ_=>True) (by kernel_rfl) ?_;refine bM 0 49 (.pointer (some ⟨B,0,none⟩)) trivial ?_;refine bM 1 50 (.pointer (some ⟨B,0,none⟩)) trivial ?_;refine bM 2 51 (.pointer (some ⟨B,0,none⟩)) trivial ?_;refine bM 3 52 (.pointer (some ⟨B,0,none⟩)) trivial ?_;refine bM 5 54 (.string t) trivial ?_;refine bM 6 55 (.int .i64 (k:Int)) trivial ?_;refine eG 7 56 (.int .i64 ((k:Int)+1)) rfl (λw' _=>by simp[execOp,Act.eval,go_sem,TR]) trivial ?_;refine eG 8 57 (.int .u8 nm) rfl (λw' _=>by simp[execOp,Act.eval,go_sem,b3,b4,Wl,b0]) trivial ?_;refine bM 9 58 (.int .i64 kd) trivial ?_;refine bM 10 59 (.int .i64 up) trivial ?_;refine bM 11 60 (.int .i64 (k:Int)) trivial ?_;refine eG 12 61 (.int .i64 ((k:Int)+1)) rfl (λw' _=>by simp[execOp,Act.eval,go_sem,TR]) trivial ?_;refine bM 13 62 (.agg #[.int .u8 nm,.int .i64 kd,.int .i64 up,.int .i64 ((k:Int)+1),.slice none 0 0,.slice none 0 0,.slice none 0 0]) trivial ?_
     refine Be 4 14 53 63 v (.slice (some ⟨wc.heap.size,0,none⟩) 1 1) (wc.drew.alloc (.cells #[.int .u8 nm,.int .i64 kd,.int .i64 up,.int .i64 ((k:Int)+1),.slice none 0 0,.slice none 0 0,.slice none 0 0] 223)) (by decide) (by kernel_rfl) (by kernel_rfl) (by kernel_rfl) rfl rfl rfl rfl rfl rfl (by simp[execOp,Act.eval,go_sem,zc]) (by simp[execOp,Act.eval,Act.put,go_sem]) (by simp[execOp,Act.eval,go_sem]) (by simp[execOp,Act.eval,Act.put,go_sem,aj]) trivial trivial ?_;simp only[Act.put,pA,pB,pC];refine oX 15 ?_;refine Nt (some 64) rfl (.slice (some ⟨g1,0,none⟩) (l1.length+1) c1) w9 (by simp[execOp,resolve,invoke,builtin,Act.eval,JH]) ?_;simp only[Act.put,pA,pB,pC];refine⟨trivial,?_⟩;refine bM 16 65 (.pointer (some ⟨B,0,none⟩)) trivial ?_;refine bM 17 66 (.pointer (some ⟨B,0,none⟩)) trivial ?_;refine oX 18 ?_;unfold Oper.wp;simp[execOp,Act.eval,go_sem,y1,yf];refine bF (by kernel_rfl) (bG ?_) _;generalize w9.setCell ⟨B,0,none⟩ (.slice (some ⟨g1,0,none⟩) (l1.length+1) c1)=wz at*;have zz:=H9.out.1.cell;clear y1 yf JH zc aj
     rcases b2.out with⟨rfl,rfl⟩|⟨rfl,rfl⟩|⟨rfl,rfl⟩|⟨rfl,rfl⟩
     all_goals
      go_wp2
      go_roundw
      case rel=>
       obtain⟨AF,KZ,a9,wC,bi⟩:=H9.out;have a5:=Wj.out
       have Hi:((Ch.mk l).length:Int)=(l1.length:Int):=by simp[Ch.mk,bi]
       rw[<-a9,Hi,b0]at a5;rw[<-Sh l1 _ (.slice none 0 0) (.slice none 0 0) (.slice none 0 0)]at a5
       first
        |exact af ⟨k+1+1,(l1.length:Int),_,_,by first|rfl|go_num,by go_num,AF,a5,wC.mono (by omega),KZ,by omega⟩
        |exact af ⟨k+2+1,up,_,_,rfl,by go_num,AF,a5,wC.mono (by omega),KZ,by omega⟩
        |exact af ⟨k+1+1,up,_,_,rfl,by go_num,AF,a5,wC.mono (by omega),KZ,by omega⟩
      case measure=>simp[intOf];omega
   |false=>?_
   have ck:(c==40)=false/\(c==91)=false/\(c==60)=false/\(c==42)=false:=by
    simp only[dz,Bool.or_eq_false_iff]at qo;exact⟨qo.1.1.1,qo.1.1.2,qo.1.2,qo.2⟩
   obtain⟨cv,c9,c8,cV⟩:=ck
   cases qc:(c==41||c==93)with
   |true=>
    obtain⟨n,hn,I⟩:=hN.close a1 (by rw[ao.out];exact qc);obtain⟨m,x,rfl,Z,rfl,Hi⟩:=yM hn;obtain⟨g,cap,rfl,aI,G,aa⟩:=hF.2.1.form Z;have z2:_=some _:=G 2 (by omega);have O:=af (ae hF (ae I (ae F U)));clear hF hN I F U G aa qo hn
    have am:(m:Int)<(l.length:Int):=by omega
    rcases(by simpa using qc:c=41\/c=93)with rfl|rfl
    all_goals
     clear qc;go_wp2
     go_roundw
     case rel=>
      obtain⟨hF,I,F,U⟩:=O.out;exact af ⟨k+1,x.n.parent,l,_,rfl,by go_num,hF,I,F.mono (by omega),U,by omega⟩
     case measure=>simp[intOf];omega
   |false=>?_
   have ci:(c==41)=false/\(c==93)=false:=by simpa using qc
   obtain⟨cw,da⟩:=ci
   cases Nk:c==58 with
   |true=>
    obtain rfl:c=58:=by simpa using Nk
    obtain⟨n,hn,b7,di,_,I⟩:=hN.Xh a1 ao.out;obtain⟨m,x,rfl,Z,rfl,Hi⟩:=yM hn;obtain⟨g,cap,rfl,aI,G,aa⟩:=hF.2.1.form Z;have X:=aM Z;have z6:_=some _:=G 6 (by omega);have Wj:=af I;have E:=af (CB wr t (k+1) ht b7)
    have cs:k+1<=gS t (k+1)+1:=by assumption
    generalize gS t (k+1)=e at*
    have aj:=λo=>(hF.au ((Kp.refl _ _).alloc o)).cell
    obtain⟨g',ba,aS,_,J,_⟩:=(hF.2.1.au ((Kp.refl _ _).alloc (.cells #[.string (t.extract (k+1) (e+1)),.int .i64 ((k:Int)+1)] 292))).form Z;simp only[aK,bq,dH,bS,dx]at aS;obtain⟨rfl,rfl⟩:=aS;have TU:_=some _:=J 6 (by omega)
    have am:(m:Int)<(l.length:Int):=by omega
    have TR:IntKind.i64.wrap ((k:Int)+1)=(k:Int)+1:=fF (by omega);have cn:IntKind.i64.wrap ((e:Int)+1)=(e:Int)+1:=fF (by omega)
    have Wl:((k:Int)+1).toNat=k+1:=by omega
    have cm:((e:Int)+1).toNat=e+1:=by omega
    have a6:(e:Int)+1<=(t.size:Int):=by omega
    have a8:(k:Int)+1<=(e:Int)+1:=by omega
    have a7:(0:Int)<=(k:Int)+1:=by omega
    have dd:(0:Int)<=(e:Int)+1:=by omega
    have bo:=(F.2 x X).2.2;have bb:=hF.low
    have b5:g≠B:=λe=>hF.ne (by simp[Value.ownBlock,e])
    have O:=af (ae hF (ae F U));obtain⟨i0,hi,a2,a3,a4⟩:=bY RI;clear hF hN I F U G J aa qo qc hn Nk
    go_wp2_with fail
    refine b9 E ?_;rintro y w2 ⟨rfl,e2⟩;rw[e2];clear E e2 w2
    go_upto_region 25 with(fail)
    have D:wr.drew.cell? _=_:=zc;have aO:(wr.drew.alloc (.cells #[.string (t.extract (k+1) (e+1)),.int .i64 ((k:Int)+1)] 292)).cell? _=_:=aj _;refine bf (λw'=>w'.cell? ⟨B,0,none⟩=some (.slice (some ⟨g,0,none⟩) l.length cap)) (by kernel_rfl) ?_;refine bM 0 98 (.pointer (some ⟨B,0,none⟩)) D ?_;refine bM 1 99 (.pointer (some ⟨B,0,none⟩)) D ?_;refine bM 2 100 (.pointer (some ⟨B,0,none⟩)) D ?_;refine eG 3 101 (.slice (some ⟨g,0,none⟩) l.length cap) rfl (λw' hS=>by simp[execOp,Act.eval,go_sem,hS]) D ?_;refine bM 4 102 (.int .i64 (m:Int)) D ?_;refine bM 5 103 (.pointer (some ⟨B,0,none⟩)) D ?_;refine bM 6 104 (.pointer (some ⟨B,0,none⟩)) D ?_;refine bM 7 105 (.pointer (some ⟨B,0,none⟩)) D ?_;refine eG 8 106 (.slice (some ⟨g,0,none⟩) l.length cap) rfl (λw' hS=>by simp[execOp,Act.eval,go_sem,hS]) D ?_;refine bM 9 107 (.int .i64 (m:Int)) D ?_;refine eG 10 108 (.pointer (some ⟨g,m*7,none⟩)) rfl (λw' _=>by simp[execOp,Act.eval,go_sem,am]) D ?_;refine bM 11 109 (.pointer (some ⟨g,m*7+6,none⟩)) D ?_
    refine bM 13 111 (.string t) D ?_;refine bM 14 112 (.int .i64 (k:Int)) D ?_;refine eG 15 113 (.int .i64 ((k:Int)+1)) rfl (λw' _=>by simp[execOp,Act.eval,go_sem,TR]) D ?_;refine bM 16 114 (.int .i64 (e:Int)) D ?_;refine eG 17 115 (.int .i64 ((e:Int)+1)) rfl (λw' _=>by simp[execOp,Act.eval,go_sem,cn]) D ?_;refine eG 18 116 (.string (t.extract (k+1) (e+1))) rfl (λw' _=>by simp[execOp,Act.eval,go_sem,a6,a7,a8,Wl,cm]) D ?_;refine bM 19 117 (.int .i64 (k:Int)) D ?_;refine eG 20 118 (.int .i64 ((k:Int)+1)) rfl (λw' _=>by simp[execOp,Act.eval,go_sem,TR]) D ?_;refine bM 21 119 (.agg #[.string (t.extract (k+1) (e+1)),.int .i64 ((k:Int)+1)]) D ?_;obtain⟨g1,c1,w9,JH,o9,g9,CP⟩:=dV (P:=prog) (wr.drew.alloc (.cells #[.string (t.extract (k+1) (e+1)),.int .i64 ((k:Int)+1)] 292)) B 221 221 292 i0 (.agg #[.string ⟨#[]⟩,.int .i64 0]) 2 24 underlying221 hi a2 a3 a4 rfl (by decide) x.tv x.n.trans.length (kF x.n.trans) (by exact(O.out.1.2.1.j_ x X).alloc _) ⟨wr.heap.size,0,none⟩ 1 1 [.string (t.extract (k+1) (e+1)),.int .i64 ((k:Int)+1)] rfl (by exact fQ _ _ _) (by intro u hu;simp at hu;rcases hu with rfl|rfl<;>rfl) (by decide) (by unfold maxLen;omega) (by omega) (by simp;omega);have K9:Kp _ wr _:=Kp.grown (by exact((Kp.refl _ _).alloc (.cells #[.string (t.extract (k+1) (e+1)),.int .i64 ((k:Int)+1)] 292)).drew) g9 (λi hi _=>hi);obtain⟨y1,y2,y3⟩:=O.out.1.behind K9 (O.out.1.2.1.j_ x X) (by decide) (by decide) Z
    have y6:_=some _:=y2 6 (by omega);have yf:=y3 (m*7+6);have H9:=af (ae o9 (ae g9 (ae CP K9)));clear o9 g9 CP K9 y2 y3;refine Be 12 22 110 120 x.tv (.slice (some ⟨wr.heap.size,0,none⟩) 1 1) (wr.drew.alloc (.cells #[.string (t.extract (k+1) (e+1)),.int .i64 ((k:Int)+1)] 292)) (by decide) (by kernel_rfl) (by kernel_rfl) (by kernel_rfl) rfl rfl rfl rfl rfl rfl (by simp[execOp,Act.eval,go_sem,z6]) (by simp[execOp,Act.eval,Act.put,go_sem]) (by simp[execOp,Act.eval,go_sem]) (by simp[execOp,Act.eval,Act.put,go_sem,TU]) D aO ?_;simp only[Act.put,pA,pB,pC];refine oX 23 ?_;refine Nt (some 121) rfl (.slice (some ⟨g1,0,none⟩) (x.n.trans.length+1) c1) w9 (by simp[execOp,resolve,invoke,builtin,Act.eval,JH]) ?_;simp only[Act.put,pA,pB,pC];refine⟨y1,?_⟩;refine eG 24 122 (.pointer (some ⟨g,m*7,none⟩)) rfl (λw' _=>by simp[execOp,Act.eval,go_sem,am]) y1 ?_;refine bM 25 123 (.pointer (some ⟨g,m*7+6,none⟩)) y1 ?_;refine oX 26 ?_;unfold Oper.wp;simp[execOp,Act.eval,go_sem,y6,yf];refine⟨y1,bF (by kernel_rfl) (bG ?_) _⟩;obtain⟨o9,g9,CP,K9⟩:=H9.out;have TV:=O.out.1.au ((Kp.refl (λ_=>False) wr).alloc (.cells #[.string (t.extract (k+1) (e+1)),.int .i64 ((k:Int)+1)] 292)).drew
    have AF:=jW.yJ TV Z ⟨t.extract (k+1) (e+1),(k:Int)+1⟩ o9 (by exact g9) (by exact CP);have KZ:Kp _ _ (w9.setCell ⟨g,m*7+6,none⟩ (.slice (some ⟨g1,0,none⟩) (x.n.trans.length+1) c1)):=((O.out.2.2.trans' K9 (λi _ hi=>(((O.out.1.2.1.j_ x X).lt i hi).1))).setCell (p:=⟨g,m*7+6,none⟩) (λ_=>aI) _)
    generalize w9.setCell ⟨g,m*7+6,none⟩ (.slice (some ⟨g1,0,none⟩) (x.n.trans.length+1) c1)=wz at*;have HZ:=af (ae AF KZ);clear D aO y1 y6 yf JH o9 g9 CP K9 TV AF KZ H9 zc aj z6 TU;go_wp2
    go_roundw
    case rel=>
     obtain⟨hF,F,U⟩:=O.out;obtain⟨AF,KZ⟩:=HZ.out;have hb:=F.2 x X;refine af ⟨e+1,(m:Int),_,_,rfl,by go_num,AF,?_,F.set (by omega) ⟨by simp only;omega,by simp only;omega,by simp;omega⟩,KZ,by omega⟩;rw[CA (f:=λn=>{n with trans:=n.trans++[⟨t.extract (k+1) (e+1),(k:Int)+1⟩]}) Z rfl];exact Wj.out
    case measure=>simp[intOf];omega
   |false=>?_
   cases qb:(c==94||c==36)with
   |true=>
    obtain⟨n,hn,dj,I⟩:=hN.bO a1 (by rw[ao.out];exact qb);obtain⟨m,x,rfl,Z,rfl,Hi⟩:=yM hn;obtain⟨g,cap,rfl,aI,G,aa⟩:=hF.2.1.form Z;have X:=aM Z;rw[ao.out]at I;have Wj:=af I;have E:=af (uF wr t k 59 ht);have ct:=yN t k 59;generalize iz t k 59=e at*
    have am:(m:Int)<(l.length:Int):=by omega
    have TR:IntKind.i64.wrap ((k:Int)+1)=(k:Int)+1:=fF (by omega)
    have Wl:((k:Int)+1).toNat=k+1:=by omega
    have a6:(e:Int)<=(t.size:Int):=by omega
    have a8:(k:Int)+1<=(e:Int):=by omega
    have a7:(0:Int)<=(k:Int)+1:=by omega
    have bb:=hF.low
    have b5:g≠B:=λe=>hF.ne (by simp[Value.ownBlock,e])
    obtain⟨i0,hi,a2,a3,a4⟩:=bY RJ
    rcases(by simpa using qb:c=94\/c=36)with rfl|rfl
    ·have z6:_=some _:=G 4 (by omega)
     have aj:=λo=>(hF.au ((Kp.refl _ _).alloc o)).cell
     obtain⟨g',ba,aS,_,J,_⟩:=(hF.2.1.au ((Kp.refl _ _).alloc (.cells #[.string (t.extract (k+1) e)] 9))).form Z;simp only[aK,bq,dH,bS,dx]at aS;obtain⟨rfl,rfl⟩:=aS;have TU:_=some _:=J 4 (by omega)
     have bo:=(F.2 x X)
     have O:=af (ae hF (ae F U));clear hF hN I F U G J aa qo qc hn qb
     go_wp2_with fail
     refine b9 E ?_;rintro y w2 ⟨rfl,e2⟩;rw[e2];clear E e2 w2
     go_upto_region 31 with(fail)
     have D:wr.drew.cell? _=_:=zc;have aO:(wr.drew.alloc (.cells #[.string (t.extract (k+1) e)] 9)).cell? _=_:=aj _;refine bf (λw'=>w'.cell? ⟨B,0,none⟩=some (.slice (some ⟨g,0,none⟩) l.length cap)) (by kernel_rfl) ?_;refine bM 0 135 (.pointer (some ⟨B,0,none⟩)) D ?_;refine bM 1 136 (.pointer (some ⟨B,0,none⟩)) D ?_;refine bM 2 137 (.pointer (some ⟨B,0,none⟩)) D ?_;refine eG 3 138 (.slice (some ⟨g,0,none⟩) l.length cap) rfl (λw' hS=>by simp[execOp,Act.eval,go_sem,hS]) D ?_;refine bM 4 139 (.int .i64 (m:Int)) D ?_;refine bM 5 140 (.pointer (some ⟨B,0,none⟩)) D ?_;refine bM 6 141 (.pointer (some ⟨B,0,none⟩)) D ?_;refine bM 7 142 (.pointer (some ⟨B,0,none⟩)) D ?_;refine eG 8 143 (.slice (some ⟨g,0,none⟩) l.length cap) rfl (λw' hS=>by simp[execOp,Act.eval,go_sem,hS]) D ?_;refine bM 9 144 (.int .i64 (m:Int)) D ?_;refine eG 10 145 (.pointer (some ⟨g,m*7,none⟩)) rfl (λw' _=>by simp[execOp,Act.eval,go_sem,am]) D ?_;refine bM 11 146 (.pointer (some ⟨g,m*7+4,none⟩)) D ?_
     refine bM 13 148 (.string t) D ?_;refine bM 14 149 (.int .i64 (k:Int)) D ?_;refine eG 15 150 (.int .i64 ((k:Int)+1)) rfl (λw' _=>by simp[execOp,Act.eval,go_sem,TR]) D ?_;refine bM 16 151 (.int .i64 (e:Int)) D ?_;refine eG 17 152 (.string (t.extract (k+1) e)) rfl (λw' _=>by simp[execOp,Act.eval,go_sem,a6,a7,a8,Wl]) D ?_;obtain⟨g1,c1,w9,JH,o9,g9,CP⟩:=dV (P:=prog) (wr.drew.alloc (.cells #[.string (t.extract (k+1) e)] 9)) B 220 220 9 i0 (.string ⟨#[]⟩) 1 16 underlying220 hi a2 a3 a4 rfl (by decide) x.ev x.n.enter.length (ly x.n.enter) (by exact(O.out.1.2.1.nR x X).alloc _) ⟨wr.heap.size,0,none⟩ 1 1 [.string (t.extract (k+1) e)] rfl (by exact fQ _ _ _) (by intro u hu;simp at hu;subst hu;rfl) (by decide) (by unfold maxLen;omega) (by omega) (by simp;omega);have K9:Kp _ wr _:=Kp.grown (by exact((Kp.refl _ _).alloc (.cells #[.string (t.extract (k+1) e)] 9)).drew) g9 (λi hi _=>hi);obtain⟨y1,y2,y3⟩:=O.out.1.behind K9 (O.out.1.2.1.nR x X) (by decide) (by decide) Z;have y6:_=some _:=y2 4 (by omega);have yf:=y3 (m*7+4);have H9:=af (ae o9 (ae g9 (ae CP K9)));clear o9 g9 CP K9 y2 y3;refine Be 12 18 147 153 x.ev (.slice (some ⟨wr.heap.size,0,none⟩) 1 1) (wr.drew.alloc (.cells #[.string (t.extract (k+1) e)] 9)) (by decide) (by kernel_rfl) (by kernel_rfl) (by kernel_rfl) rfl rfl rfl rfl rfl rfl (by simp[execOp,Act.eval,go_sem,z6]) (by simp[execOp,Act.eval,Act.put,go_sem]) (by simp[execOp,Act.eval,go_sem]) (by simp[execOp,Act.eval,Act.put,go_sem,TU]) D aO ?_;simp only[Act.put,pA,pB,pC];refine oX 19 ?_;refine Nt (some 154) rfl (.slice (some ⟨g1,0,none⟩) (x.n.enter.length+1) c1) w9 (by simp[execOp,resolve,invoke,builtin,Act.eval,JH]) ?_;simp only[Act.put,pA,pB,pC];refine⟨y1,?_⟩
     refine eG 20 155 (.pointer (some ⟨g,m*7,none⟩)) rfl (λw' _=>by simp[execOp,Act.eval,go_sem,am]) y1 ?_;refine bM 21 156 (.pointer (some ⟨g,m*7+4,none⟩)) y1 ?_;refine oX 22 ?_;unfold Oper.wp;simp[execOp,Act.eval,go_sem,y6,yf];refine⟨y1,bF (by kernel_rfl) (bG ?_) _⟩;obtain⟨o9,g9,CP,K9⟩:=H9.out;have TV:=O.out.1.au ((Kp.refl (λ_=>False) wr).alloc (.cells #[.string (t.extract (k+1) e)] 9)).drew
     have AF:=jW.yK TV Z (t.extract (k+1) e) o9 (by exact g9) (by exact CP);have KZ:Kp _ _ (w9.setCell ⟨g,m*7+4,none⟩ (.slice (some ⟨g1,0,none⟩) (x.n.enter.length+1) c1)):=((O.out.2.2.trans' K9 (λi _ hi=>(((O.out.1.2.1.nR x X).lt i hi).1))).setCell (p:=⟨g,m*7+4,none⟩) (λ_=>aI) _)
     generalize w9.setCell ⟨g,m*7+4,none⟩ (.slice (some ⟨g1,0,none⟩) (x.n.enter.length+1) c1)=wz at*;have HZ:=af (ae AF KZ);clear D aO y1 y6 yf JH o9 g9 CP K9 TV AF KZ H9 zc aj z6 TU;go_wp2
     go_roundw
     case rel=>
      obtain⟨hF,F,U⟩:=O.out;obtain⟨AF,KZ⟩:=HZ.out;have hb:=F.2 x X;refine af ⟨e+1,(m:Int),_,_,rfl,by go_num,AF,?_,F.set (by omega) ⟨by simp;omega,by simp only;omega,by simp only;omega⟩,KZ,by omega⟩;rw[CA (f:=λn=>if((94:Int)==94)=true then {n with enter:=n.enter++[t.extract (k+1) e]}else {n with cA:=n.cA++[t.extract (k+1) e]}) Z rfl];exact Wj.out
     case measure=>simp[intOf];omega
    have z6:_=some _:=G 5 (by omega)
    have aj:=λo=>(hF.au ((Kp.refl _ _).alloc o)).cell
    obtain⟨g',ba,aS,_,J,_⟩:=(hF.2.1.au ((Kp.refl _ _).alloc (.cells #[.string (t.extract (k+1) e)] 9))).form Z;simp only[aK,bq,dH,bS,dx]at aS;obtain⟨rfl,rfl⟩:=aS;have TU:_=some _:=J 5 (by omega)
    have bo:=(F.2 x X)
    have O:=af (ae hF (ae F U));clear hF hN I F U G J aa qo qc hn qb
    go_wp2_with fail
    refine b9 E ?_;rintro y w2 ⟨rfl,e2⟩;rw[e2];clear E e2 w2
    go_upto_region 32 with(fail)
    have D:wr.drew.cell? _=_:=zc;have aO:(wr.drew.alloc (.cells #[.string (t.extract (k+1) e)] 9)).cell? _=_:=aj _;refine bf (λw'=>w'.cell? ⟨B,0,none⟩=some (.slice (some ⟨g,0,none⟩) l.length cap)) (by kernel_rfl) ?_;refine bM 0 157 (.pointer (some ⟨B,0,none⟩)) D ?_;refine bM 1 158 (.pointer (some ⟨B,0,none⟩)) D ?_;refine bM 2 159 (.pointer (some ⟨B,0,none⟩)) D ?_;refine eG 3 160 (.slice (some ⟨g,0,none⟩) l.length cap) rfl (λw' hS=>by simp[execOp,Act.eval,go_sem,hS]) D ?_;refine bM 4 161 (.int .i64 (m:Int)) D ?_;refine bM 5 162 (.pointer (some ⟨B,0,none⟩)) D ?_;refine bM 6 163 (.pointer (some ⟨B,0,none⟩)) D ?_;refine bM 7 164 (.pointer (some ⟨B,0,none⟩)) D ?_;refine eG 8 165 (.slice (some ⟨g,0,none⟩) l.length cap) rfl (λw' hS=>by simp[execOp,Act.eval,go_sem,hS]) D ?_;refine bM 9 166 (.int .i64 (m:Int)) D ?_;refine eG 10 167 (.pointer (some ⟨g,m*7,none⟩)) rfl (λw' _=>by simp[execOp,Act.eval,go_sem,am]) D ?_;refine bM 11 168 (.pointer (some ⟨g,m*7+5,none⟩)) D ?_;refine bM 13 170 (.string t) D ?_;refine bM 14 171 (.int .i64 (k:Int)) D ?_;refine eG 15 172 (.int .i64 ((k:Int)+1)) rfl (λw' _=>by simp[execOp,Act.eval,go_sem,TR]) D ?_;refine bM 16 173 (.int .i64 (e:Int)) D ?_;refine eG 17 174 (.string (t.extract (k+1) e)) rfl (λw' _=>by simp[execOp,Act.eval,go_sem,a6,a7,a8,Wl]) D ?_;obtain⟨g1,c1,w9,JH,o9,g9,CP⟩:=dV (P:=prog) (wr.drew.alloc (.cells #[.string (t.extract (k+1) e)] 9)) B 220 220 9 i0 (.string ⟨#[]⟩) 1 16 underlying220 hi a2 a3 a4 rfl (by decide) x.lv x.n.cA.length (ly x.n.cA) (by exact(O.out.1.2.1.rJ x X).alloc _) ⟨wr.heap.size,0,none⟩ 1 1 [.string (t.extract (k+1) e)] rfl (by exact fQ _ _ _) (by intro u hu;simp at hu;subst hu;rfl) (by decide) (by unfold maxLen;omega) (by omega) (by simp;omega);have K9:Kp _ wr _:=Kp.grown (by exact((Kp.refl _ _).alloc (.cells #[.string (t.extract (k+1) e)] 9)).drew) g9 (λi hi _=>hi);obtain⟨y1,y2,y3⟩:=O.out.1.behind K9 (O.out.1.2.1.rJ x X) (by decide) (by decide) Z;have y6:_=some _:=y2 5 (by omega);have yf:=y3 (m*7+5);have H9:=af (ae o9 (ae g9 (ae CP K9)));clear o9 g9 CP K9 y2 y3;refine Be 12 18 169 175 x.lv (.slice (some ⟨wr.heap.size,0,none⟩) 1 1) (wr.drew.alloc (.cells #[.string (t.extract (k+1) e)] 9)) (by decide) (by kernel_rfl) (by kernel_rfl) (by kernel_rfl) rfl rfl rfl rfl rfl rfl (by simp[execOp,Act.eval,go_sem,z6]) (by simp[execOp,Act.eval,Act.put,go_sem]) (by simp[execOp,Act.eval,go_sem]) (by simp[execOp,Act.eval,Act.put,go_sem,TU]) D aO ?_;simp only[Act.put,pA,pB,pC];refine oX 19 ?_;refine Nt (some 176) rfl (.slice (some ⟨g1,0,none⟩) (x.n.cA.length+1) c1) w9 (by simp[execOp,resolve,invoke,builtin,Act.eval,JH]) ?_;simp only[Act.put,pA,pB,pC];refine⟨y1,?_⟩;refine eG 20 177 (.pointer (some ⟨g,m*7,none⟩)) rfl (λw' _=>by simp[execOp,Act.eval,go_sem,am]) y1 ?_;refine bM 21 178 (.pointer (some ⟨g,m*7+5,none⟩)) y1 ?_;refine oX 22 ?_;unfold Oper.wp;simp[execOp,Act.eval,go_sem,y6,yf];refine⟨y1,bF (by kernel_rfl) (bG ?_) _⟩;obtain⟨o9,g9,CP,K9⟩:=H9.out;have TV:=O.out.1.au ((Kp.refl (λ_=>False) wr).alloc (.cells #[.string (t.extract (k+1) e)] 9)).drew
    have AF:=jW.yL TV Z (t.extract (k+1) e) o9 (by exact g9) (by exact CP);have KZ:Kp _ _ (w9.setCell ⟨g,m*7+5,none⟩ (.slice (some ⟨g1,0,none⟩) (x.n.cA.length+1) c1)):=((O.out.2.2.trans' K9 (λi _ hi=>(((O.out.1.2.1.rJ x X).lt i hi).1))).setCell (p:=⟨g,m*7+5,none⟩) (λ_=>aI) _)
    generalize w9.setCell ⟨g,m*7+5,none⟩ (.slice (some ⟨g1,0,none⟩) (x.n.cA.length+1) c1)=wz at*;have HZ:=af (ae AF KZ);clear D aO y1 y6 yf JH o9 g9 CP K9 TV AF KZ H9 zc aj z6 TU;go_wp2
    go_roundw
    case rel=>
     obtain⟨hF,F,U⟩:=O.out;obtain⟨AF,KZ⟩:=HZ.out;have hb:=F.2 x X;refine af ⟨e+1,(m:Int),_,_,rfl,by go_num,AF,?_,F.set (by omega) ⟨by simp only;omega,by simp;omega,by simp only;omega⟩,KZ,by omega⟩;rw[CA (f:=λn=>if((36:Int)==94)=true then {n with enter:=n.enter++[t.extract (k+1) e]}else {n with cA:=n.cA++[t.extract (k+1) e]}) Z rfl];exact Wj.out
    case measure=>simp[intOf];omega
   |false=>?_
   have I:=hN.other a1 (by rw[ao.out];exact qo) (by rw[ao.out];exact qc) (by rw[ao.out];exact Nk) (by rw[ao.out];exact qb)
   have cg:(c==94)=false/\(c==36)=false:=by simpa using qb
   obtain⟨dc,cu⟩:=cg;have O:=af (ae hF (ae I (ae F U)));clear hF hN I F U qo qc qb;go_wp2
   go_roundw
   case rel=>
    obtain⟨hF,I,F,U⟩:=O.out;exact af ⟨k+1,up,l,_,rfl,by go_num,hF,I,F.mono (by omega),U,by omega⟩
   case measure=>simp[intOf];omega
  have dg:¬(k:Int)<(t.size:Int):=by omega
  have hE:=hN.end_ (by omega);have O:=af (ae hF (ae hE (ae F U)));clear hF hN F U hE;go_wp2;go_ret;obtain⟨hF,hE,F,U⟩:=O.out;exact⟨rfl,⟨l,v,hF,hE.symm,F.mono (by omega)⟩,K0.trans' U (λi hi x=>by omega)⟩
end
namespace Ch
def TB(L:List RN):Prop:=∀n∈L,∀rt∈n.trans,rt.text.size<=300/\rt.pos<=300
theorem TB.mod{L:List RN}(h:TB L){i:Int}{f:RN->RN}(G:∀n,∀rt∈(f n).trans,rt∈n.trans\/(rt.text.size<=300/\rt.pos<=300)):TB (ny L i f):=by
 intro n F rt D
 cases i with
 |negSucc j=>exact h n F rt D
 |ofNat j=>?_
 obtain⟨k,hk⟩:=ie F;rw[show(ny L (Int.ofNat j) f)[k]? =_ from iq (L:=L) (k:=j) (f:=f) k]at hk
 split at hk
 ·rw[nJ]at hk
  obtain⟨m,hm,rfl⟩:=hk
  rcases G m rt D with E|E
  ·exact h m (aM hm) rt E
  omega
 exact h n (aM hk) rt D
theorem TB.mark{L:List RN}(h:TB L)(i:Int):TB (iD L i):=by
 intro n D rt E;obtain⟨k,hk⟩:=ie D;obtain⟨m,hm,e,_⟩:=kV L i k n hk;exact h m (aM hm) rt (by rw[<-e];exact E)
theorem Pq(t:ByteArray)(a b:Nat):(t.extract a b).size<=t.size:=by simp;omega
theorem im.bd{t:ByteArray}(J:t.size<=240){i:Nat}{up:Int}{L D:List RN}(h:im t i up L D):TB L->TB D:=by
 refine im.ind (M:=λ_ _ L D=>TB L->TB D) (λ_=>id) ?_ h;intro i j up up' L L' D hi dE I F;refine I ?_;unfold mn at dE
 split at dE
 ·split at dE
  ·simp only[bq,l9]at dE
   obtain⟨_,_,rfl⟩:=dE;intro n E rt G
   rcases cB.1 E with E|E
   ·exact F.mark up n E rt G
   simp_all
  simp_all
 split at dE
 ·grind
 split at dE
 ·split at dE
  ·simp only[bq,l9]at dE
   obtain⟨_,_,rfl⟩:=dE;refine F.mod (λn rt G=>?_);grind[Pq,gS]
  simp_all
 split at dE
 ·split at dE
  ·simp only[bq,l9]at dE
   obtain⟨_,_,rfl⟩:=dE;refine F.mod (λn rt G=>.inl ?_)
   grind
  simp_all
 simp_all
end Ch
theorem Xv{l:List NV}{r:Rs}(h:NR (Ch.mk l) r)(hb:sY l 300)(J:TB (Ch.mk l)):TI l:=by
 have at_:∀(k:Nat) (x:NV),l[k]? =some x->(Ch.mk l)[k]? =some x.n:=λk x hx=>by unfold Ch.mk;rw[bw,hx];rfl
 refine⟨hb.1,λx hx=>?_,λk x hx hk=>?_,λx hx=>⟨(hb.2 x hx).2.2,λrt hr=>?_⟩⟩
 ·obtain⟨k,hk⟩:=ie hx
  have:=RC (h.wf k _ (at_ k x hk)).2.2.1;omega
 ·have hw:=h.wf k _ (at_ k x hx)
  have:=hw.2.2.2.1 hk;have I:=(aJ.1 hx).1;exact⟨x.n.parent.toNat,by omega,by omega⟩
 obtain⟨k,hk⟩:=ie hx;have D:=h.cW k _ (at_ k x hk)
 have F:∃y,uD rt y:=by
  generalize List.filter (pE k) r.cW=m at D;generalize x.n.trans=q at D hr
  induction D using rT.ind with
  |nil=>simp_all
  |cons G _ O=>?_
  grind
 obtain⟨y,E⟩:=F;have:=E.ends.1;have:=E.pos;have:=J x.n (aM (at_ k x hk)) rt hr;omega
theorem jW.aaJ{w:World}{B D cb:Nat}{l:List NV}{v:Value}(h:jW w B cb l v)(hb:D<=B):jW w D cb l v:=
 ⟨h.1,⟨dY h.2.1.row hb,λx hx=>dY (h.2.1.nR x hx) hb,λx hx=>dY (h.2.1.rJ x hx) hb,λx hx=>dY (h.2.1.j_ x hx) hb,h.2.1.aE,h.2.1.aL,h.2.1.aX,h.2.1.aT⟩,bA hb h.2.2⟩
def RdR(w':World)(B:Nat)(t:ByteArray)(p:Value):Prop:=∃cb l v,p= .pointer (some ⟨cb,0,none⟩)/\jW w' B cb l v/\NR (Ch.mk l) (chart t).2/\sY l 300/\TB (Ch.mk l)
def RdQ(w w':World)(t:ByteArray)(p:Value):Prop:=((Ch.read t).1≠0->p= .pointer none)/\((Ch.read t).1=0->RdR w' w.heap.size t p)/\Kp (λ_=>False) w w'
section
variable (w:World)
theorem Mh(t:ByteArray):
 Calls prog 142 #[.string t] w λx w'=>∃p,x= .returned (.tuple #[p,.int .i64 (Ch.read t).1,.int .i64 (Ch.read t).2.1])/\RdQ w w' t p:=by
 by_cases Si:240<t.size
 ·have Xw:(240:Int)<(t.size:Int):=by omega
  have E:=af (show Ch.read t=(1,0,⟨[],[],[]⟩)by unfold Ch.read;rw[aq Si])
  go_enter func142,ntmps142
  go_wp2;go_ret3;refine⟨.pointer none,by rw[E.out];rfl,λ_=>rfl,λh=>absurd h (by rw[E.out];decide),Kp.refl _ _⟩
 have Xw:¬(240:Int)<(t.size:Int):=by omega
 have ht:t.size<=240:=by omega
 have Y:=af (Ha w t ht);have D:=Lh t
 cases q:(chart t).1 with
 |false=>
  rw[q]at D;simp only[bp,bj]at D;rw[D]at Y
  have h0:(0:Int)<=((chart t).2.pos:Int):=by omega
  have E:=af (show Ch.read t=(2,((chart t).2.pos:Int),⟨[],[],[]⟩)by unfold Ch.read;rw[ay Si,q];rfl);clear D;generalize (chart t).2.pos=po at*
  go_enter func142,ntmps142
  go_wp2_with fail
  refine b9 Y ?_;rintro y X ⟨rfl,U⟩;go_wp2;go_ret3;refine⟨.pointer none,by rw[E.out];rfl,λ_=>rfl,λh=>absurd h (by rw[E.out];simp only;decide),U⟩
 |true=>?_
 rw[q]at D;simp only[aV]at D;rw[D]at Y;obtain⟨L,G,J⟩:=wD q;have I:=yH J;have Z:=G.bd ht (by intro n hn;simp at hn);have HL:=af (ae G (ae J Z));clear D G J Z
 go_enter func142,ntmps142
 go_wp2_with fail
 refine b9 Y ?_;rintro y X ⟨rfl,U⟩;have E2:=af (Ib X t L ht HL.out.1)
 go_wp2_with fail
 refine b9 E2 ?_;rintro y w2 ⟨rfl,⟨l,v,hF,O,F⟩,K2⟩;have HX:=af (show NR (Ch.mk l) (chart t).2/\TB (Ch.mk l)by rw[O];exact HL.out.2);have E3:=af (Hh w2 X.heap.size X.heap.size l v hF (Xv HX.out.1 F HX.out.2));rw[<-O]at I
 have hE:fE (Ch.mk l)=(fa (chart t).2.ai (chart t).2.cN).1:=by unfold fE;rw[I]
 have hP:fP (Ch.mk l)=(fa (chart t).2.ai (chart t).2.cN).2:=by unfold fP;rw[I]
 rw[hE,hP]at E3;have iG:=U.size;have HF:=af (ae hF (ae F (U.trans K2)));clear Y E2 hF O F K2 hE hP I HL
 go_wp2_with fail
 refine b9 E3 ?_;rintro y w3 ⟨rfl,K3⟩
 cases q2:(fa (chart t).2.ai (chart t).2.cN).1==0 with
 |false=>
  have q3:((fa (chart t).2.ai (chart t).2.cN).1 !=0)=true:=by simpa using q2
  have E:=af (show(Ch.read t).1=(fa (chart t).2.ai (chart t).2.cN).1/\(Ch.read t).2.1=(fa (chart t).2.ai (chart t).2.cN).2 by unfold Ch.read;rw[ay Si,q,q2];exact⟨rfl,rfl⟩);generalize fa (chart t).2.ai (chart t).2.cN=jd at*;clear E3 U;go_wp2;go_ret3;refine⟨.pointer none,by rw[E.out.1,E.out.2];rfl,λ_=>rfl,λh=>absurd h (by rw[E.out.1];simpa using q2),HF.out.2.2.trans K3⟩
 |true=>?_
 have q3:((fa (chart t).2.ai (chart t).2.cN).1 !=0)=false:=by simpa using q2
 have E:=af (show(Ch.read t).1=0/\(Ch.read t).2.1=0 by unfold Ch.read;rw[ay Si,q,q2];exact⟨rfl,rfl⟩);generalize fa (chart t).2.ai (chart t).2.cN=jd at*;clear E3 U;go_wp2;go_ret3;obtain⟨hF,F,KK⟩:=HF.out;refine⟨.pointer (some ⟨X.heap.size,0,none⟩),by rw[E.out.1,E.out.2];rfl,λh=>absurd E.out.1 h,λ_=>⟨X.heap.size,l,v,rfl,(hF.au K3).aaJ iG,HX.out.1,F,HX.out.2⟩,KK.trans K3⟩
end
structure Rf(l:List NV)(ol:Ol):Prop where
 ai:Ch.ai l=ol.ai
 cW:∀(k:Nat) (x:NV),l[k]? =some x->rT uD x.n.trans (ol.cW.filter (pE k))
 nR:∀(k:Nat) (x:NV),l[k]? =some x->rT OB x.n.enter (ol.eR.filter (oC k 94))
 rJ:∀(k:Nat) (x:NV),l[k]? =some x->rT OB x.n.cA (ol.eR.filter (oC k 36))
 kg:z9 ol
 z_:uZ ol
 ok:ol.Ok
 nm:∀(k:Nat) (x:NV),l[k]? =some x->65<=x.n.name/\x.n.name<=90
 tb:∀x∈l,∀rt∈x.n.trans,rt.text.size<=300
 kd:∀(k:Nat) (x:NV),l[k]? =some x->1<=x.n.kind/\x.n.kind<=5
theorem Rf.len{l:List NV}{ol:Ol}(h:Rf l ol):ol.ai.length=l.length:=by rw[<-h.ai,Sg]
theorem Rf.le{l:List NV}{ol:Ol}(h:Rf l ol):l.length<=16:=by rw[<-h.len];exact h.kg.le
theorem Rf.up{l:List NV}{ol:Ol}(h:Rf l ol):Up (Ch.ai l):=by rw[h.ai];exact h.kg.qM.up
theorem Rf.Aw{l:List NV}{ol:Ol}(h:Rf l ol){k:Nat}{x:NV}(D:l[k]? =some x):aN ol.ai k=x.n.parent:=by rw[<-h.ai];exact CO D
theorem Rf.kind{l:List NV}{ol:Ol}(h:Rf l ol){k:Nat}{x:NV}(D:l[k]? =some x):a_ ol.ai k=x.n.kind:=by rw[<-h.ai];exact Po D
theorem Rf.move{l:List NV}{ol:Ol}(h:Rf l ol){t a k:Nat}(hm:O0 ol t a k):∃(nd:NV) (rt:RT) (x:Tr),l[a]? =some nd/\nd.n.trans[k]? =some rt/\ol.cW[t]? =some x/\x.state=a/\uD rt x/\rt.text.size<=300:=by
 obtain⟨x,I,J,O⟩:=hm.tr;obtain⟨G,e,D⟩:=h.kg.src x (aM I)
 have:G=a:=by omega
 subst this;rw[h.len]at D;have lG:=ar D;obtain⟨rt,E,F⟩:=(h.cW G _ lG).get O;exact⟨_,rt,x,lG,E,I,J,F,h.tb _ (aM lG) rt (aM E)⟩
theorem Rf.named{l:List NV}{ol:Ol}(h:Rf l ol)(c:Int):(fM (Ch.mk l) c= -1/\Ch.place ol.ai c= -2)\/∃i:Nat,i<l.length/\fM (Ch.mk l) c=i/\Ch.place ol.ai c=i:=by
 have:=kY (Ch.mk l) c;rw[show(Ch.mk l).map RN.st=ol.ai from h.ai,eI]at this
 grind
theorem Rf.JI{l:List NV}{ol:Ol}(h:Rf l ol):fM (Ch.mk l) 45= -1:=by
 rcases kY (Ch.mk l) 45 with⟨a,_,_⟩|⟨i,hi,_,_,E⟩
 ·omega
 rw[eI]at hi;have D:=ar hi;rw[lz D]at E;have:=h.nm i _ D;omega
theorem vG{l:List RT}{k:Nat}{x:RT}(h:l[k]? =some x):(kF l)[k*2]? =some (.string x.text):=by
 induction l generalizing k with
 |nil=>simp_all
 |cons a l D=>?_
 grind[kF]
theorem ze:∃d,prog.underlying 301=some d/\dU d=true:=⟨_,underlying301,rfl⟩
theorem Ic:(prog.info? 301).map (·.size)=some 2:=by kernel_rfl
section
variable (w:World) (B xb cb g n:Nat) (pv:Value) (m:Ma) (l:List NV) (v:Value)
theorem BE(a k:Nat)(nd:NV)(rt:RT)(h:iA w xb cb g n pv m)(hF:jW w B cb l v)(lG:l[a]? =some nd)(xF:nd.n.trans[k]? =some rt):
 Calls prog 245 #[.pointer (some ⟨xb,0,none⟩),.agg #[.int .i64 a,.int .i64 k]] w λy w'=>y= .returned (.string rt.text)/\Kp (λ_=>False) w w':=by
 obtain⟨ao,cap,rfl⟩:=hF.2.1.len;have aa:=(aJ.1 lG).1
 have U:(a:Int)<(l.length:Int):=by omega
 have hk:=(aJ.1 xF).1;have F:=an w (.cells #[.int .i64 a,.int .i64 k] 301);have I:Kp (λ_=>False) w (w.alloc (.cells #[.int .i64 a,.int .i64 k] 301)):=(Kp.refl _ _).alloc _;have E:=hF.au I;have O:iA _ xb cb g n pv m:=h.az I (λx=>x);obtain⟨g1,EE,X,_,D,_⟩:=E.2.1.form lG;simp only[aK]at X;obtain⟨rfl,-,rfl⟩:=X;have zY:=E.2.1.j_ nd (aM lG);obtain⟨g2,J,G,_⟩:=cR zY (by omega);have z6:=D 6 (by omega);rw[show(mr nd)[6]? =some nd.tv from rfl,G]at z6;rw[G]at zY;have zt:=(bP zY (k*2) (by omega)).trans (vG xF);have c0:World.cell? _ ⟨xb,0,none⟩=some (.pointer (some ⟨cb,0,none⟩)):=O.cell 0;have zc:=E.cell
 have Z:(k:Int)<(nd.n.trans.length:Int):=by omega
 clear E O D zY h hF
 go_enter func245,ntmps245
 go_upto_region 1 with(fail)
 generalize w.alloc (.cells #[.int .i64 a,.int .i64 k] 301)=Y at*;generalize w.heap.size=ob at*
 have m0:Y.cell? ⟨ob,0,none⟩=some (.int .i64 a):=by rw[World.cell?,F];rfl
 have m1:Y.cell? ⟨ob,1,none⟩=some (.int .i64 k):=by rw[World.cell?,F];rfl
 clear F
 go_quiet (fail)
 go_wp2;go_ret;exact⟨rfl,I.drewN _⟩
theorem xi(a k:Nat)(nd:NV)(rt:RT)(x:Tr)(h:iA w xb cb g n pv m)(hF:jW w B cb l v)(hl:l.length<=16)(lG:l[a]? =some nd)(xF:nd.n.trans[k]? =some rt)(hx:uD rt x)(iG:rt.text.size<=300):
 Calls prog 268 #[.pointer (some ⟨xb,0,none⟩),.agg #[.int .i64 a,.int .i64 k]] w λy w'=>y= .returned (.int .i64 (fM (Ch.mk l) x.target))/\Kp (λ_=>False) w w':=by
 obtain⟨d,hd,kJ⟩:=ze;obtain⟨ad,_,I⟩:=hx.ends;have E:=an w (.cells #[.int .i64 a,.int .i64 k] 301);have O:Kp (λ_=>False) w (w.alloc (.cells #[.int .i64 a,.int .i64 k] 301)):=(Kp.refl _ _).alloc _;have D:=hF.au O;have Y:iA _ xb cb g n pv m:=h.az O (λx=>x);have Z:=af (BE _ B xb cb g n pv m l v a k nd rt Y D lG xF)
 obtain⟨q,hq⟩:∃q,rt.text.size=q+1:=⟨rt.text.size-1,by omega⟩
 have J:q<rt.text.size:=by omega
 have aj:(rt.text.size:Int)=(q:Int)+1:=by omega
 have G:((rt.text[q]'J).toNat:Int)=x.target:=by rw[<-I,show rt.text.size-1=q by omega];simp[ag,J]
 have aI:=Ic;have X:=af (ae Y D);clear h hF Y D I
 go_enter func268,ntmps268
 go_upto_region 1 with(fail)
 generalize w.alloc (.cells #[.int .i64 a,.int .i64 k] 301)=w1 at*;generalize w.heap.size=ob at*
 have m0:w1.cell? ⟨ob,0,none⟩=some (.int .i64 a):=by rw[World.cell?,E];rfl
 have m1:w1.cell? ⟨ob,1,none⟩=some (.int .i64 k):=by rw[World.cell?,E];rfl
 go_wp2_with fail
 refine b9 Z ?_;rintro y w2 ⟨rfl,U⟩;have F:=X.out.2.au U;have h2:=X.out.1.az U (λx=>x);have c0:w2.cell? _=some (.pointer (some ⟨cb,0,none⟩)):=h2.cell 0;have E2:=af (λnn=>uH (w2.drewN nn) B cb l v ((rt.text[q]'J).toNat:Int) (F.au ((Kp.refl _ _).drewN nn)) (by omega))
 have aa:(q:Int)<(q:Int)+1:=by omega
 have HK:=af (O.trans U);clear Z F h2 X m0 m1 E O U lG xF hx;have HB:=af G;clear G hq;generalize rt.text=s at*
 go_upto_region 2 with(fail)
 go_quiet ((go_at_call 236;exact iZ (eE E2 _)))
 go_wp2;go_ret;rw[<-HB.out];exact⟨rfl,HK.out.drewN _⟩
end
namespace Ch
theorem Mi{ss:List St}(hu:Up ss)(tg:Int):∀(n f g:Nat) (d:Int),-1<=d->(d+1).toNat<=n->(d+1).toNat<=f->(d+1).toNat<=g->qX ss tg f d=qX ss tg g d:=by
 intro n
 induction n with
 |zero=>
  grind[sy]
 |succ n J=>?_
 intro f g d F G D E
 cases q:(d != -1)&& !tW ss d tg with
 |false=>grind[sy]
 |true=>?_
 have I:d≠ -1:=by simp at q;exact q.1
 match f,g,D,E with
 |0,_,D,_=>omega
 |_+1,0,_,E=>omega
 |f+1,g+1,D,E=>
  simp only[qX];rw[aq q,aq q];have a:=gE hu d;have b:=iy hu (i:=d) (by omega);grind
def dm(ss:List St)(tg d:Int):Int:=qX ss tg (d+1).toNat d
theorem Vg(ss:List St)(tg:Int):dm ss tg (-1)= -1:=rfl
theorem Vh{ss:List St}{tg d:Int}(h:tW ss d tg=true):dm ss tg d=d:=sy ss tg _ (by rw[h];simp)
theorem Sj{ss:List St}(hu:Up ss){tg d:Int}(E:0<=d)(h:tW ss d tg=false):dm ss tg d=dm ss tg (aN ss d):=by
 unfold dm
 obtain⟨f,D⟩:∃f,(d+1).toNat=f+1:=⟨d.toNat,by omega⟩
 rw[D];simp only[qX]
 have:((d != -1)&& !tW ss d tg)=true:=by rw[h];simp;omega
 rw[aq this];have a:=gE hu d;have b:=iy hu (i:=d) (by omega);exact Mi hu tg f f _ _ a (by omega) (by omega) (aC _)
end Ch
structure Xx(l:List NV)(ol:Ol)(t a k:Nat)(nd:NV)(rt:RT)(x:Tr):Prop where
 lG:l[a]? =some nd
 xF:nd.n.trans[k]? =some rt
 zY:ol.cW[t]? =some x
 dE:x.state=a
 eD:uD rt x
 iG:rt.text.size<=300
section
variable (w:World) (B xb cb g:Nat) (pv:Value) (m:Ma) (l:List NV) (v:Value) (ol:Ol)
theorem wP(t a k i:Nat)(nd:NV)(rt:RT)(x:Tr)(on:List Bool)(h:iA w xb cb g l.length pv m)(a0:kG w g on)(a2:iN l.length on m.s.act)(hF:jW w B cb l v)(J:Rf l ol)(hm:Xx l ol t a k nd rt x)(hi:i<l.length):
 Calls prog 266 #[.pointer (some ⟨xb,0,none⟩),.agg #[.int .i64 a,.int .i64 k],.int .i64 i] w λy w'=>y= .returned (.bool (Ch.lv ol m.s t i))/\Kp (λ_=>False) w w':=by
 obtain⟨d,hd,kJ⟩:=ze;have D:=TM (s:=m.s) (t:=(t:Int)) (show ol.cW[((t:Int)).toNat]? =some x from hm.zY) i;rw[hm.dE,gz (by rw[J.len];exact hi),gA,<-a2.2.2 i]at D
 have aj:rZ ol.ai a x.target=Ch.dm ol.ai (Ch.place ol.ai x.target) nd.n.parent:=by rw[<-J.Aw hm.lG];rfl
 rw[aj]at D;have a7:=J.le;obtain⟨ao,cap,rfl⟩:=hF.2.1.len;have ad:=an w (.cells #[.int .i64 a,.int .i64 k] 301);have K1:Kp (λ_=>False) w (w.alloc (.cells #[.int .i64 a,.int .i64 k] 301)):=(Kp.refl _ _).alloc _;have am:=hF.au K1;have h1:iA _ xb cb g l.length pv m:=h.az K1 (λx=>x);have xG:kG _ g on:=K1.at_ a0 (λx=>x);have E1:=af (xi _ B xb cb g l.length pv m l _ a k nd rt x h1 am a7 hm.lG hm.xF hm.eD hm.iG);have HH:=af (ae h1 (ae am (ae xG D)));clear h hF h1 am a0 xG D aj
 go_enter func266,ntmps266
 go_upto_region 1 with(fail)
 generalize w.alloc (.cells #[.int .i64 a,.int .i64 k] 301)=w1 at*;generalize w.heap.size=ob at*
 have m0:w1.cell? ⟨ob,0,none⟩=some (.int .i64 a):=by rw[World.cell?,ad];rfl
 have m1:w1.cell? ⟨ob,1,none⟩=some (.int .i64 k):=by rw[World.cell?,ad];rfl
 go_wp2_with fail
 refine b9 E1 ?_;rintro y w2 ⟨rfl,K2⟩;have aO:=K2.at_ ad (λx=>x)
 have bm:w2.cell? ⟨ob,0,none⟩=some (.int .i64 a):=by rw[World.cell?,aO];rfl
 have h2:=HH.out.1.az K2 (λx=>x);have aa:=HH.out.2.1.au K2;have Ie:kG _ _ _:=K2.at_ HH.out.2.2.1 (λx=>x);have c0:w2.cell? _=some (.pointer (some ⟨cb,0,none⟩)):=h2.cell 0;have c1:w2.cell? _=some (.slice (some ⟨g,0,none⟩) l.length l.length):=h2.cell 1;have Gh:=Ie.cell (k:=i) (by have:=a2.1;omega);have D:=HH.out.2.2.2
 have bk:(i:Int)<(l.length:Int):=by omega
 have Nw:=K1.trans K2;clear E1 HH m0 m1 ad aO K1 K2
 obtain⟨gt,G⟩:∃gt,fM (Ch.mk l) x.target=gt:=⟨_,rfl⟩
 rw[G]
 by_cases Z:x.target=45
 ·have hn:=J.JI
  rw[<-Z,G]at hn;subst hn;rw[Z]at D;have HR:=af (D.trans (show _=false from rfl));clear D G;go_wp2;go_ret;rw[HR.out];exact⟨rfl,Nw⟩
 obtain⟨F,EG,a5,a6⟩:∃F:Nat,F<l.length/\gt=F/\Ch.place ol.ai x.target=F:=by
  rcases J.named x.target with⟨_,h2⟩|⟨i,hi,h1,h2⟩
  ·obtain⟨g',bi,_⟩:=J.kg.tgt x (aM hm.zY) Z
   omega
  exact⟨i,hi,by rw[<-G];exact h1,h2⟩
 subst a5
 have ht:(x.target==45)=false:=by simpa using Z
 rw[ht,a6]at D;simp only[Bool.not_false,gA]at D
 have a8:(F:Int)<(l.length:Int):=by omega
 cases qo:qA on i with
 |false=>
  rw[qo]at Gh D;have HR:=af (D.trans (Bool.false_and _));clear D G;go_wp2;go_ret;rw[HR.out];exact⟨rfl,Nw⟩
 |true=>?_
 rw[qo]at Gh D;rw[gA]at D;have ba:=(aJ.1 hm.lG).1
 have Sk:(a:Int)<(l.length:Int):=by omega
 obtain⟨g1,EE,hv,_,O,_⟩:=aa.2.1.form hm.lG;simp only[aK]at hv;obtain⟨rfl,-,rfl⟩:=hv;have zp:_=some _:=O 2 (by omega);have zc:=aa.cell;have X:=J.up;have a1:=X a ⟨nd.n.name,nd.n.pos,nd.n.kind,nd.n.parent⟩ (by unfold Ch.ai Ch.mk;rw[bw,bw,hm.lG];rfl);simp only at a1;have HX:=af (ae D (ae aa (ae h2 Nw)));clear D aa h2 O G Ie Nw
 go_wp2_with fail
 go_quiet (fail)
 go_wp2_with fail
 go_loopw [8] (λdv wr=>∃Y:Int,dv= .int .i64 Y/\ -1<=Y/\Y<l.length/\Hid (Ch.lv ol m.s t i=aB ol.ai (Ch.dm ol.ai F Y) i)/\Kp (λ_=>False) w2 wr) (λdv _=>(intOf dv+1).toNat)
 case atStart=>exact⟨nd.n.parent,rfl,a1.1,by omega,af HX.out.1,(Kp.refl _ _).drewN _⟩
 case round=>
  obtain⟨Y,rfl,bc,be,HE,KW⟩:=hrel;have fW:=HX.out.2.1.au KW;have hr:=HX.out.2.2.1.az KW (λx=>x);have a9:wr.cell? _=some (.pointer (some ⟨cb,0,none⟩)):=hr.cell 0;have bo:=fW.cell;clear hr
  by_cases bb:0<=Y
  ·obtain⟨I,rfl⟩:∃I:Nat,Y=I:=⟨Y.toNat,by omega⟩
   have a4:I<l.length:=by omega
   obtain⟨y,hy⟩:∃y,l[I]? =some y:=⟨_,ar a4⟩
   obtain⟨g3,yy,a3,_,pL,_⟩:=fW.2.1.form hy;simp only[aK,bq,dH,bS,dx]at a3;obtain⟨rfl,rfl⟩:=a3;have zk:_=some _:=pL 1 (by omega);have br:_=some _:=pL 2 (by omega);have aI:=X I ⟨y.n.name,y.n.pos,y.n.kind,y.n.parent⟩ (by unfold Ch.ai Ch.mk;rw[bw,bw,hy];rfl);simp only at aI;have E:=af (oN wr B cb l _ I F fW EG X (by omega));have E2:=af (oN wr B cb l _ I i fW hi X (by omega))
   have aS:tW ol.ai I F=(y.n.kind==2&&aB ol.ai I F):=by unfold tW;rw[J.kind hy]
   have U:=λh=>HE.out.trans (by rw[Vh (ss:=ol.ai) (tg:=F) (d:=I) h])
   have ap:=λh=>HE.out.trans (show _=aB ol.ai (Ch.dm ol.ai F y.n.parent) i by rw[Sj J.kg.qM.up (tg:=F) (d:=I) (by omega) h,J.Aw hy])
   rw[aS]at U ap;rw[J.ai]at E E2;have Sl:=af U;have Xy:=af ap;clear pL aS U ap fW HE;generalize aB ol.ai I F=ov at*
   cases ov with
   |false=>
    have HN:=af (Xy.out (by simp));clear Xy Sl
    go_wp2_with fail
    refine b9 E ?_;rintro z w5 ⟨rfl,e5⟩;rw[e5];go_wp2
    go_roundw
    case rel=>exact⟨y.n.parent,rfl,aI.1,by omega,af HN.out,KW⟩
    case measure=>simp[intOf];omega
   |true=>?_
   cases q2:y.n.kind==2 with
   |false=>
    have HN:=af (Xy.out (by rw[q2];rfl));clear Xy Sl
    go_wp2_with fail
    refine b9 E ?_;rintro z w5 ⟨rfl,e5⟩;rw[e5];go_wp2
    go_roundw
    case rel=>exact⟨y.n.parent,rfl,aI.1,by omega,af HN.out,KW⟩
    case measure=>simp[intOf];omega
   |true=>?_
   have HN:=af (Sl.out (by rw[q2];rfl));clear Xy Sl
   go_wp2_with fail
   refine b9 E ?_;rintro z w5 ⟨rfl,e5⟩;rw[e5]
   go_wp2_with fail
   refine b9 E2 ?_;rintro z w6 ⟨rfl,e6⟩;rw[e6];go_wp2;go_ret;rw[HN.out];exact⟨rfl,HX.out.2.2.2.trans KW⟩
  have We:Y= -1:=by omega
  subst We;have E2:=af (oN wr B cb l _ (-1) i fW hi X (by omega));rw[J.ai]at E2;have HN:=af (HE.out.trans (by rw[Vg]));clear HE fW
  go_wp2_with fail
  refine b9 E2 ?_;rintro z w6 ⟨rfl,e6⟩;rw[e6];go_wp2;go_ret;rw[HN.out];exact⟨rfl,HX.out.2.2.2.trans KW⟩
end
namespace Ch
theorem we{ol:Ol}(D:ol.ai.length<=16)(s:Sd)(a b:Nat):meets (leaves ol s a) (leaves ol s b)=(List.range ol.ai.length).any (λj=>lv ol s a j&&lv ol s b j):=by
 have h:=Ee D (s:=s) (a:=(a:Int)) (b:=(b:Int));simp only[db]at h
 grind[lv,xW,pJ,meets,leaves]
theorem Sn{n k:Nat}{p:Nat->Bool}(hk:k<n)(h:p k=true):(List.range n).any p=true:=by
 grind
theorem Vi{n:Nat}{p:Nat->Bool}(h:∀k,k<n->p k=false):(List.range n).any p=false:=by
 simp_all
end Ch
section
variable (w:World) (B xb cb g:Nat) (pv:Value) (m:Ma) (l:List NV) (v:Value) (ol:Ol)
theorem Mj(t a k t2 D F:Nat)(nd Zh:NV)(rt Zj:RT)(x x2:Tr)(on:List Bool)(h:iA w xb cb g l.length pv m)(aj:kG w g on)(am:iN l.length on m.s.act)(hF:jW w B cb l v)(hR:Rf l ol)(hm:Xx l ol t a k nd rt x)(aI:Xx l ol t2 D F Zh Zj x2):
 Calls prog 242 #[.pointer (some ⟨xb,0,none⟩),.agg #[.int .i64 a,.int .i64 k],.agg #[.int .i64 D,.int .i64 F]] w λy w'=>y= .returned (.bool (Ch.meets (Ch.leaves ol m.s t) (Ch.leaves ol m.s t2)))/\Kp (λ_=>False) w w':=by
 have hM:=Ch.we hR.kg.le m.s t t2;rw[hR.len]at hM;obtain⟨ao,cap,rfl⟩:=hF.2.1.len;have a0:=hR.le;have ad:=an w (.cells #[.int .i64 a,.int .i64 k] 301);have J:=an (w.alloc (.cells #[.int .i64 a,.int .i64 k] 301)) (.cells #[.int .i64 D,.int .i64 F] 301);have E:=((Kp.refl (λ_=>False) (w.alloc (.cells #[.int .i64 a,.int .i64 k] 301))).alloc (.cells #[.int .i64 D,.int .i64 F] 301)).at_ ad (λx=>x);rw[show(w.alloc (.cells #[.int .i64 a,.int .i64 k] 301)).heap.size=w.heap.size+1 by simp only[World.alloc,Array.size_push]]at J;have Y:Kp (λ_=>False) w ((w.alloc (.cells #[.int .i64 a,.int .i64 k] 301)).alloc (.cells #[.int .i64 D,.int .i64 F] 301)):=((Kp.refl _ _).alloc _).alloc _;have aa:=hF.au Y;have h1:iA _ xb cb g l.length pv m:=h.az Y (λx=>x);have xG:kG _ g on:=Y.at_ aj (λx=>x);have U:=af (ae h1 (ae aa (ae xG (ae E J))));have HM:=af hM;clear h hF h1 aa aj xG ad J E hM
 go_enter func242,ntmps242
 go_upto_region 1 with(fail)
 generalize (w.alloc (.cells #[.int .i64 a,.int .i64 k] 301)).alloc (.cells #[.int .i64 D,.int .i64 F] 301)=w1 at*;generalize w.heap.size=ob at*
 go_wp2_with fail
 go_loopw [7] (λiv wr=>∃i:Nat,iv= .int .i64 i/\i<=l.length/\Hid (∀j,j<i->(Ch.lv ol m.s t j&&Ch.lv ol m.s t2 j)=false)/\Kp (λ_=>False) w1 wr) (λiv _=>l.length-(intOf iv).toNat)
 case atStart=>exact⟨0,rfl,aG _,af (λj h=>absurd h (by omega)),Kp.refl _ _⟩
 case round=>
  obtain⟨i,rfl,hi,HB,I⟩:=hrel;have hr:=U.out.1.az I (λx=>x);have fW:=U.out.2.1.au I;have kh:kG _ _ _:=I.at_ U.out.2.2.1 (λx=>x);have b1:=I.at_ U.out.2.2.2.1 (λx=>x);have c0:wr.cell? _=some (.pointer (some ⟨cb,0,none⟩)):=hr.cell 0;have zc:=fW.cell
  have m0:wr.cell? ⟨ob,0,none⟩=some (.int .i64 a):=by rw[World.cell?,b1];rfl
  have m1:wr.cell? ⟨ob,1,none⟩=some (.int .i64 k):=by rw[World.cell?,b1];rfl
  by_cases O:i<l.length
  ·have aO:(i:Int)<(l.length:Int):=by omega
   have E1:=af (wP wr B xb cb g pv m l _ ol t a k i nd rt x on hr kh am fW hR hm O);have X:=af (ae hr (ae fW (ae kh I)));have ap:=af (λh=>HM.out.trans (Sn O (p:=λj=>Ch.lv ol m.s t j&&Ch.lv ol m.s t2 j) h))
   have Ig:=af (λ(h:(Ch.lv ol m.s t i&&Ch.lv ol m.s t2 i)=false)=>show∀j,j<i+1->(Ch.lv ol m.s t j&&Ch.lv ol m.s t2 j)=false from λj hj=>by
    rcases nY (lI hj)with h'|h'
    ·exact HB.out j h'
    subst h';exact h)
   clear hr fW kh I b1 HB
   go_wp2_with fail
   refine b9 E1 ?_;rintro y w2 ⟨rfl,Z⟩;have QD:=X.out.2.2.2.trans Z;have b2:=QD.at_ U.out.2.2.2.2 (λx=>x)
   have n0:w2.cell? ⟨ob+1,0,none⟩=some (.int .i64 D):=by rw[World.cell?,b2];rfl
   have n1:w2.cell? ⟨ob+1,1,none⟩=some (.int .i64 F):=by rw[World.cell?,b2];rfl
   have E2:=af (wP w2 B xb cb g pv m l _ ol t2 D F i Zh Zj x2 on (X.out.1.az Z (λx=>x)) (Z.at_ X.out.2.2.1 (λx=>x)) am (X.out.2.1.au Z) hR aI O);clear E1 Z b2 X m0 m1 c0 zc;generalize Ch.lv ol m.s t i=v1 at*;generalize Ch.lv ol m.s t2 i=v2 at*
   go_wp2_with fail
   refine b9 E2 ?_;rintro y w3 ⟨rfl,K3⟩;have HK:=af (QD.trans K3);clear E2 K3 QD n0 n1
   cases v1<;>cases v2
   ·go_wp2
    go_roundw
    case rel=>exact⟨i+1,by go_num,by omega,af (Ig.out rfl),HK.out⟩
    case measure=>simp[intOf];omega
   ·go_wp2
    go_roundw
    case rel=>exact⟨i+1,by go_num,by omega,af (Ig.out rfl),HK.out⟩
    case measure=>simp[intOf];omega
   ·go_wp2
    go_roundw
    case rel=>exact⟨i+1,by go_num,by omega,af (Ig.out rfl),HK.out⟩
    case measure=>simp[intOf];omega
   have G:=af (ap.out rfl);go_wp2;go_ret;rw[G.out];exact⟨rfl,Y.trans HK.out⟩
  have aS:¬(i:Int)<(l.length:Int):=by omega
  obtain rfl:i=l.length:=by omega
  have G:=af (HM.out.trans (Vi HB.out));clear hr fW kh b1;go_wp2;go_ret;rw[G.out];exact⟨rfl,Y.trans I⟩
end
namespace Ch
theorem zl{ol:Ol}(hu:Up ol.ai)(s:Sd)(trg:Int):∀(n f g:Nat) (i:Int),-1<=i->(i+2).toNat<=n->(i+2).toNat<=f->(i+2).toNat<=g->cZ ol s trg f i=cZ ol s trg g i:=by
 intro n
 induction n with
 |zero=>omega
 |succ n I=>?_
 intro f g i F G D E
 match f,g,D,E with
 |0,_,D,_=>omega
 |_+1,0,_,E=>omega
 |f+1,g+1,D,E=>
  simp only[cZ]
  by_cases c:i= -1
  ·simp_all
  have a:=gE hu i;have b:=iy hu (i:=i) (by omega);grind
theorem CQ(ol:Ol)(s:Sd)(trg:Int):de ol s (-1) trg= -2:=rfl
theorem CR{ol:Ol}{s:Sd}{trg:Int}{i t:Nat}(h:ke ol s i trg=t):de ol s i trg=t:=by
 unfold de;rw[show((i:Int)+2).toNat=i+1+1 by omega];grind[cZ]
theorem EH{ol:Ol}(hu:Up ol.ai){s:Sd}{trg:Int}{i:Nat}(h:ke ol s i trg= -2):de ol s i trg=de ol s (aN ol.ai i) trg:=by
 have a:=gE hu i;have b:=iy hu (i:=(i:Int)) (by omega)
 have e:de ol s i trg=cZ ol s trg (i+1) (aN ol.ai i):=by
  unfold de;rw[show((i:Int)+2).toNat=i+1+1 by omega]
  grind[ke,cZ,aN]
 rw[e];unfold de;exact zl hu s trg (i+1) _ _ _ a (by omega) (by omega) (aC _)
def Vj(ol:Ol)(f:Int):Array Value:=if f== -2 then #[.int .i64 0,.int .i64 0]else #[.int .i64 (gG ol f.toNat),.int .i64 (Dj ol f.toNat)]
theorem Vk{ol:Ol}{t a k:Nat}(h:O0 ol t a k):Vj ol t= #[.int .i64 a,.int .i64 k]:=by
 unfold Vj
 have:((t:Int)== -2)=false:=by simp
 rw[this];simp only[bp,bj,db];rw[h.st,h.rk]
end Ch
theorem MvW.set{w:World}{ob:Nat}{a b:Value}(h:w.heap[ob]? =some (.cells #[a,b] 301))(x y:Int):((w.setCell ⟨ob,0,none⟩ (.int .i64 x)).setCell ⟨ob,1,none⟩ (.int .i64 y)).heap[ob]? =some (.cells #[.int .i64 x,.int .i64 y] 301):=by
 rw[ak _ (ak _ h)];rfl
section
variable (w:World) (B xb cb g:Nat) (pv:Value) (m:Ma) (l:List NV) (v:Value) (ol:Ol)
theorem Ih(i:Nat)(trg:Int)(h:iA w xb cb g l.length pv m)(hF:jW w B cb l v)(X:Rf l ol)(hi:i<l.length):
 Calls prog 265 #[.pointer (some ⟨xb,0,none⟩),.int .i64 i,.int .u8 trg] w λy w'=>y= .returned (.tuple #[.agg (Vj ol (de ol m.s i trg)),.bool (de ol m.s i trg != -2)])/\Kp (λ_=>False) w w':=by
 obtain⟨d,hd,kJ⟩:=ze;obtain⟨ao,cap,rfl⟩:=hF.2.1.len;have bc:=X.le;have aj:=an w (.cells #[.int .i64 0,.int .i64 0] 301);have K1:Kp (λ_=>False) w (w.alloc (.cells #[.int .i64 0,.int .i64 0] 301)):=(Kp.refl _ _).alloc _;have aa:=hF.au K1;have h1:iA _ xb cb g l.length pv m:=h.az K1 (λx=>x);have HH:=af (ae h1 (ae aa aj));clear h hF h1 aa aj
 go_enter func265,ntmps265
 go_upto_region 1 with(fail)
 generalize w.alloc (.cells #[.int .i64 0,.int .i64 0] 301)=w1 at*;generalize sr:w.heap.size=ob at*
 go_wp2_with fail
 go_loopw [8] (λjv wr=>∃p:Int,jv= .int .i64 p/\ -1<=p/\p<l.length/\Hid (de ol m.s i trg=de ol m.s p trg)/\Kp (λ_=>False) w1 wr) (λjv _=>(intOf jv+1).toNat)
 case atStart=>exact⟨i,rfl,by omega,by omega,af rfl,Kp.refl _ _⟩
 case round=>
  obtain⟨p,rfl,bi,bk,HE,KW⟩:=hrel;have hr:=HH.out.1.az KW (λx=>x);have fW:=HH.out.2.1.au KW;have F:=KW.at_ HH.out.2.2 (λx=>x);have c0:wr.cell? _=some (.pointer (some ⟨cb,0,none⟩)):=hr.cell 0;have zc:=fW.cell
  by_cases be:0<=p
  ·obtain⟨j,rfl⟩:∃j:Nat,p=j:=⟨p.toNat,by omega⟩
   have hj:j<l.length:=by omega
   have bb:(j:Int)<(l.length:Int):=by omega
   obtain⟨nd,lG⟩:∃nd,l[j]? =some nd:=⟨_,ar hj⟩
   have I:=X.cW j nd lG;have a2:=af I.len
   have bm:nd.n.trans.length<=240:=by rw[I.len];exact bA (l8 _ _) X.ok.cW
   have aI:=X.up j ⟨nd.n.name,nd.n.pos,nd.n.kind,nd.n.parent⟩ (by unfold Ch.ai Ch.mk;rw[bw,bw,lG];rfl);simp only at aI;have HW:=af (ae hr (ae fW (ae F (ae I KW))));clear hr fW F I KW c0 zc
   go_wp2_with fail
   go_loopw [9] (λkv wq=>∃k:Nat,kv= .int .i64 k/\k<=nd.n.trans.length/\Hid (∀(e:Nat) (y:Tr),e<k->(ol.cW.filter (pE j))[e]? =some y->vE m.s trg y=false)/\Kp (λ_=>False) wr wq) (λkv _=>nd.n.trans.length-(intOf kv).toNat)
   case atStart=>exact⟨0,rfl,aG _,af (λe y h=>absurd h (by omega)),Kp.refl _ _⟩
   case round=>
    obtain⟨k,rfl,hk,O,U⟩:=hrel;have hq:=HW.out.1.az U (λx=>x);have yQ:=HW.out.2.1.au U;have Y:=U.at_ HW.out.2.2.1 (λx=>x);have c0:wr.cell? _=some (.pointer (some ⟨cb,0,none⟩)):=hq.cell 0;have zc:=yQ.cell;obtain⟨g1,EE,hv,_,D,_⟩:=yQ.2.1.form lG;simp only[aK]at hv;obtain⟨rfl,-,rfl⟩:=hv;have zY:=yQ.2.1.j_ nd (aM lG);have z6:=D 6 (by omega);rw[show(mr nd)[6]? =some nd.tv from rfl]at z6;have zp:_=some _:=D 2 (by omega);obtain⟨ta,tc,Qz⟩:=bn zY;rw[Qz]at z6 zY;have Zk:=af (K1.trans (HW.out.2.2.2.2.trans U));have a3:=af (HW.out.2.2.2.2.trans U)
    by_cases a6:k<nd.n.trans.length
    ·have a9:(k:Int)<(nd.n.trans.length:Int):=by omega
     obtain⟨rt,xF⟩:∃rt,nd.n.trans[k]? =some rt:=⟨_,ar a6⟩
     obtain⟨x,hx,eD⟩:=HW.out.2.2.2.1.Va xF;obtain⟨g2,a8,aO,_⟩:=cR zY (by omega);simp only[aK]at aO;obtain⟨rfl,-,rfl⟩:=aO;have zt:=(bP zY (k*2) (by omega)).trans (vG xF);have iG:=X.tb nd (aM lG) rt (aM xF);have he:=eD.ends
     have a7:0<rt.text.size:=by omega
     have ad:((rt.text[0]'a7).toNat:Int)=x.qP:=by rw[<-he.2.1];simp[ag,a7]
     have E:=af (Ia wr xb cb g l.length pv m rt x hq eD (by omega))
     have J:vE m.s trg x=(((rt.text[0]'a7).toNat:Int)==trg&&Ch.holds m.s x.guard):=by unfold vE;rw[ad]
     have Zl:=af (λ(hh:vE m.s trg x=true)=>Hs (ol:=ol) (s:=m.s) hx hh O.out)
     have Ig:=af (λ(hh:vE m.s trg x=false)=>show∀(e:Nat) (y:Tr),e<k+1->(ol.cW.filter (pE j))[e]? =some y->vE m.s trg y=false from λe y he hy=>by
      rcases nY (lI he)with h'|h'
      ·exact O.out e y h' hy
      subst h';rw[hx]at hy;obtain rfl:x=y:=by simpa using hy
      exact hh)
     have Z:=af J;have a1:=af Y;clear yQ D zY O eD J ad hq Y he xF;generalize rt.text=s at*;generalize Ch.holds m.s x.guard=ho at*
     go_wp2_with fail
     refine hm E ?_;rintro y w5 ⟨rfl,K5⟩;have G:=K5.at_ a1.out (λx=>x)
     have r0:w5.cell? ⟨ob,0,none⟩=some (.int .i64 0):=by rw[World.cell?,G];rfl
     have r1:w5.cell? ⟨ob,1,none⟩=some (.int .i64 0):=by rw[World.cell?,G];rfl
     have a4:w5.frozen? ⟨ob,0,none⟩=false:=by simp[World.frozen?,G]
     have a5:w5.frozen? ⟨ob,1,none⟩=false:=by simp[World.frozen?,G]
     have a0:=af (MvW.set G j k);have Gi:=af (ae (Zk.out.trans K5) (U.trans K5));clear E G K5 c0 zc z6 zp zt U
     cases ho with
     |false=>
      have HF:=af (Ig.out (by rw[Z.out,Bool.and_false]));clear Z Ig Zl;go_wp2
      go_roundw
      case rel=>exact⟨k+1,by go_num,by omega,af HF.out,Gi.out.2⟩
      case measure=>simp[intOf];omega
     |true=>?_
     cases qt:((s[0]'a7).toNat:Int)==trg with
     |false=>
      have HF:=af (Ig.out (by rw[Z.out,qt];rfl));clear Z Ig Zl;go_wp2
      go_roundw
      case rel=>exact⟨k+1,by go_num,by omega,af HF.out,Gi.out.2⟩
      case measure=>simp[intOf];omega
     |true=>?_
     obtain⟨t,ap,am⟩:=Zl.out (by rw[Z.out,qt];rfl);have HN:=af (HE.out.trans (CR am));have HM:=af (Vk ap);clear Z Ig Zl ap am;go_wp2;refine oR a0.out hd kJ Ic ?_;rw[HN.out,HM.out];refine⟨by simp,?_⟩;exact Gi.out.1.trans' (((Kp.refl (λk=>k=ob) _).setCell (by intro _;rfl) _).setCell (by intro _;rfl) _) (λi hi e=>by omega)
    have ba:¬(k:Int)<(nd.n.trans.length:Int):=by omega
    obtain rfl:k=nd.n.trans.length:=by omega
    have HN:=af (HE.out.trans (show _=de ol m.s nd.n.parent trg by
     rw[EH X.kg.qM.up (En (λx hx=>by
      obtain⟨e,aS⟩:=ie hx;have:=(aJ.1 aS).1;have:=a2.out
      exact O.out e x (by omega) aS)),X.Aw lG]))
    clear yQ D zY O HE hq Y;go_wp2
    go_roundw
    case rel=>exact⟨nd.n.parent,rfl,aI.1,by omega,af HN.out,a3.out⟩
    case measure=>simp[intOf];omega
  have hp:p= -1:=by omega
  subst hp;have HN:=af (HE.out.trans (CQ ol m.s trg))
  have r0:wr.cell? ⟨ob,0,none⟩=some (.int .i64 0):=by rw[World.cell?,F];rfl
  have r1:wr.cell? ⟨ob,1,none⟩=some (.int .i64 0):=by rw[World.cell?,F];rfl
  have a4:wr.frozen? ⟨ob,0,none⟩=false:=by simp[World.frozen?,F]
  have a5:wr.frozen? ⟨ob,1,none⟩=false:=by simp[World.frozen?,F]
  have O:=af (MvW.set F 0 0);have HK:=af (ae K1 KW);clear HE hr fW F;go_wp2;refine oR O.out hd kJ Ic ?_;rw[HN.out];refine⟨rfl,?_⟩;exact HK.out.1.trans' (((HK.out.2.mono (S':=λk=>k=ob) (λ_ _ x=>x.elim)).setCell (by intro _;rfl) _).setCell (by intro _;rfl) _) (λi hi e=>by omega)
end
theorem Pr:(prog.info? 301).map (λi=>(i.zero,i.size,i.bytes))=some (some (.agg #[.int .i64 0,.int .i64 0]),2,16):=by kernel_rfl
def xj(ol:Ol)(t:Int):List Value:=[.int .i64 (gG ol t.toNat),.int .i64 (Dj ol t.toNat)]
def gJ(ol:Ol)(ts:List Int):List Value:=ts.flatMap (xj ol)
theorem rA(ol:Ol)(ts:List Int)(t:Int):gJ ol (ts++[t])=gJ ol ts++xj ol t:=by simp[gJ]
theorem lU(ol:Ol)(ts:List Int)(k:Nat)(t:Int)(h:ts[k]? =some t):(gJ ol ts)[k*2]? =some (.int .i64 (gG ol t.toNat))/\(gJ ol ts)[k*2+1]? =some (.int .i64 (Dj ol t.toNat)):=by
 induction ts generalizing k with
 |nil=>simp_all
 |cons a l D=>?_
 grind[gJ,xj]
namespace Ch
theorem Ii(ol:Ol)(s:Sd)(trg:Int):∀(f k:Nat) (D:List Int),kR ol s trg (f+1) k D=fJ ol s trg (kR ol s trg f k D) (k+f):=by
 intro f
 induction f with
 |zero=>intro k D;rfl
 |succ f E=>?_
 grind[kR,fJ]
def wQ(ol:Ol)(s:Sd)(trg:Int)(k:Nat):List Int:=kR ol s trg k 0 []
theorem Ml(ol:Ol)(s:Sd)(trg:Int)(k:Nat):wQ ol s trg (k+1)=fJ ol s trg (wQ ol s trg k) k:=by
 grind[wQ,Ii]
theorem pd{l:List NV}{ol:Ol}(h:Rf l ol)(i:Nat):fq (mk l) (i:Int)=eF ol.ai i:=by
 unfold fq eF;rw[h.len,eI];apply List.filter_congr;intro j D;rw[<-h.ai];exact(oY (L:=mk l) (by rw[eI];simpa using D)).symm
theorem So{l:List NV}{ol:Ol}(h:Rf l ol){s:Sd}(I:Inv ol s){k:Nat}(hk:k<l.length):sC ol.ai s.act k=(bit s.act k&&(fq (mk l) (k:Int)).length==0):=by
 rw[pd h];unfold sC;rw[fC]
 cases q:bit s.act k with
 |false=>rfl
 |true=>?_
 simp only[gA];have G:=ar hk;have D:=h.kd k _ G;rw[<-h.kind G]at D;have Y:=I.yY.gY k q
 have E:k<ol.ai.length:=by rw[h.len];exact hk
 by_cases c:a_ ol.ai k=2\/a_ ol.ai k=3
 ·obtain⟨j,_,O⟩:=h.kg.qM.CG k E c
  have hm:=cf.2 O
  grind
 have X:eF ol.ai k=[]:=by
  cases U:eF ol.ai k with
  |nil=>rfl
  |cons a t=>?_
  exfalso
  have hm:a∈eF ol.ai k:=by rw[U];simp
  have J:=cf.1 hm;have F:=pI h.kg.qM J;have:=h.kg.qM.pk a (by omega) F.2;grind[dL]
 grind
theorem Sp{ol:Ol}(G:z9 ol){e t:Nat}(he:e<ol.cW.length)(I:t<ol.cW.length):(gG ol e==gG ol t&&((Dj ol e:Int)==(Dj ol t:Int)))=((e:Int)==(t:Int)):=by
 have E:=ar he;have F:=ar I
 have J:gG ol e=(ol.cW[e]).state:=by unfold gG;rw[E]
 have O:gG ol t=(ol.cW[t]).state:=by unfold gG;rw[F]
 rw[J,O]
 by_cases c:e=t
 ·simp_all
 have D:((e:Int)==(t:Int))=false:=by simp;omega
 rw[D]
 cases q:(ol.cW[e]).state==(ol.cW[t]).state with
 |false=>rfl
 |true=>?_
 have hs:(ol.cW[e]).state=(ol.cW[t]).state:=by simpa using q
 obtain⟨k,hk,_⟩:=G.src _ (List.getElem_mem he)
 grind[Dj,U_]
end Ch
section
variable (w:World) (B xb cb g:Nat) (pv:Value) (m:Ma) (l:List NV) (v:Value) (ol:Ol)
theorem Ij(trg:Int)(on:List Bool)(h:iA w xb cb g l.length pv m)(a3:kG w g on)(a4:iN l.length on m.s.act)(hI:Ch.Inv ol m.s)(hF:jW w B cb l v)(hR:Rf l ol):
 Calls prog 241 #[.pointer (some ⟨xb,0,none⟩),.int .u8 trg] w λy w'=>∃u,y= .returned u/\w'.ownsRow w.heap.size 301 2 u (Ch.find ol m.s trg).length (gJ ol (Ch.find ol m.s trg))/\Kp (λ_=>False) w w':=by
 obtain⟨i0,bc,bm,bo,br⟩:=bY Pr;obtain⟨d,hd,kJ⟩:=ze;obtain⟨ao,cap,rfl⟩:=hF.2.1.len;have b4:=hR.le;have HH:=af (ae h (ae hF a3));clear h hF a3
 go_enter func241,ntmps241
 go_wp2_with fail
 go_loopw [5,6] (λfv iv wr=>∃k:Nat,iv= .int .i64 k/\k<=l.length/\wr.ownsRow w.heap.size 301 2 fv (wQ ol m.s trg k).length (gJ ol (wQ ol m.s trg k))/\Kp (λ_=>False) w wr) (λ_ iv _=>l.length-(intOf iv).toNat)
 case atStart=>exact⟨0,rfl,aG _,bT _ _ _ _,Kp.refl _ _⟩
 case round=>
  obtain⟨k,rfl,hk,ho,KW⟩:=hrel;have hr:=HH.out.1.az KW (λx=>x);have fW:=HH.out.2.1.au KW;have kh:kG _ _ _:=KW.at_ HH.out.2.2 (λx=>x);have c0:wr.cell? _=some (.pointer (some ⟨cb,0,none⟩)):=hr.cell 0;have zc:=fW.cell
  by_cases am:k<l.length
  ·have b1:(k:Int)<(l.length:Int):=by omega
   have E1:=af (nT wr B cb l _ (k:Int) fW (by omega));have aj:=So hR hI am;rw[<-a4.2.2 k]at aj;have dE:=Ml ol m.s trg k;unfold fJ at dE;rw[aj]at dE;have be:=tN (Ch.mk l) (k:Int);rw[eI]at be;generalize fq (Ch.mk l) (k:Int)=ks at*;have ad:=DE (ol:=ol) (s:=m.s) (trg:=trg) k 0 [] (by intro n hn;cases hn);have G:=af (ae dE (show wZ ol (wQ ol m.s trg k)from ad.1))
   have b3:(wQ ol m.s trg k).length<=k:=by have:=ad.2;unfold wQ;simpa using this
   generalize wQ ol m.s trg k=D at*;have HW:=af (ae hr (ae fW (ae kh (ae ho KW))));clear hr fW kh ho KW aj dE ad
   go_wp2_with fail
   refine b9 E1 ?_;rintro y w2 ⟨u,rfl,hu,K2⟩;obtain⟨ua,uc,rfl⟩:=bn hu;have h2:=HW.out.1.az K2 (λx=>x);have aa:=HW.out.2.1.au K2;have Ie:kG _ _ _:=K2.at_ HW.out.2.2.1 (λx=>x);have J:=K2.owns HW.out.2.2.2.1 (λ_ _ x=>x);have QD:=HW.out.2.2.2.2.trans K2;have c1:w2.cell? _=some (.slice (some ⟨g,0,none⟩) l.length l.length):=h2.cell 1;have Gh:=Ie.cell (k:=k) (by have:=a4.1;omega);clear E1 HW K2 hu c0 zc
   cases qo:qA on k with
   |false=>
    have HF:=af (show wQ ol m.s trg (k+1)=D by rw[G.out.1,qo];rfl);rw[qo]at Gh;have Z:=af (ae J QD);clear G h2 aa Ie J QD;go_wp2
    go_roundw
    case rel=>exact⟨k+1,by go_num,by omega,by rw[HF.out];exact Z.out.1,Z.out.2⟩
    case measure=>simp[intOf];omega
   |true=>?_
   rw[qo]at Gh
   by_cases a2:ks.length=0
   ·have a8:¬(0:Int)<(ks.length:Int):=by omega
    have dE:=G.out.1;rw[qo,show(ks.length==0)=true by simpa using a2]at dE;simp only[Bool.and_self,gA]at dE;have E2:=af (Ih w2 B xb cb g pv m l _ ol k trg h2 aa hR am);have aI:=sD ol m.s trg ((k:Int)+2).toNat k;have Z:=af (ae dE (ae G.out.2 (ae J QD)));clear G dE h2 aa Ie J QD;generalize aS:de ol m.s k trg=E at*
    obtain⟨A,O,hA⟩:∃A O:Int,Vj ol E= #[.int .i64 A,.int .i64 O]:=by
     unfold Vj;split
     ·exact⟨_,_,rfl⟩
     exact⟨_,_,rfl⟩
    rw[hA]at E2;have HA:=af hA;clear hA
    go_wp2_with fail
    refine b9 E2 ?_;rintro y w3 ⟨rfl,K3⟩;clear E2;have K4:Kp _ _ (w3.alloc (.cells #[.int .i64 A,.int .i64 O] 301)):=K3.alloc _;have aO:=an w3 (.cells #[.int .i64 A,.int .i64 O] 301)
    go_upto_region 8 with(fail)
    generalize w3.alloc (.cells #[.int .i64 A,.int .i64 O] 301)=w4 at*;generalize w3.heap.size=mb at*;have Wm:=K4.owns Z.out.2.2.1 (λ_ _ x=>x);have uS:=Z.out.2.2.2.trans K4
    have Xz:∀(e:Nat) (I:Int),D[e]? =some I->(if(gG ol I.toNat==A&&((Dj ol I.toNat:Nat):Int)==O)then false else(E != -2)&& !((D.take e).any (· ==E)))=((E != -2)&& !((D.take (e+1)).any (· ==E))):=by
     intro e I X
     have bi:(D.take (e+1)).any (· ==E)=((D.take e).any (· ==E)||I==E):=by
      rw[gO,X,List.any_append];simp
     rw[bi]
     by_cases c:E= -2
     ·subst c
      have:((-2:Int)!= -2)=false:=rfl;rw[this];simp
     have ap:(E != -2)=true:=by simpa using c
     rw[ap]
     obtain⟨t,ht,bk⟩:∃t:Nat,E=t/\t<ol.cW.length:=by
      rcases aI with e2|⟨t,e2,e3⟩
      ·exact absurd (aS▸e2) c
      exact⟨t,by rw[<-aS];exact e2,e3⟩
     have ad:=Z.out.2.1 I (aM X)
     obtain⟨fn,ba⟩:∃fn:Nat,I=fn:=⟨I.toNat,by omega⟩
     have Y:=HA.out;rw[ht]at Y;unfold Vj at Y;rw[show((t:Int)== -2)=false by simp]at Y;simp only[bp,bj,db]at Y
     have h0:gG ol t=A:=by
      have:=gr (λz=>z[0]?) Y;simpa using this
     have h1:((Dj ol t:Nat):Int)=O:=by
      have:=gr (λz=>z[1]?) Y;simpa using this
     rw[<-h0,<-h1,ba,db,Sp hR.kg (by omega) bk,ht]
     cases((fn:Int)==(t:Int))<;>simp
    have HT:=af Xz;have HZ:=af (ae aO (ae Wm uS));clear Xz aO Wm uS K3 K4 aI;obtain⟨la,lc,Gj⟩:=bn HZ.out.2.1;subst Gj
    go_wp2_with fail
    go_loopw [9,10] (λokv ev wq=>∃e:Nat,ev= .int .i64 e/\e<=D.length/\okv= .bool ((E != -2)&& !((D.take e).any (· ==E)))/\Kp (λ_=>False) w4 wq) (λ_ ev _=>D.length-(intOf ev).toNat)
    case atStart=>exact⟨0,rfl,aG _,by simp,Kp.refl _ _⟩
    case round=>
     obtain⟨e,rfl,he,rfl,KQ⟩:=hrel;have U:=KQ.at_ HZ.out.1 (λx=>x);have F:=KQ.owns HZ.out.2.1 (λ_ _ x=>x)
     have m0:wr.cell? ⟨mb,0,none⟩=some (.int .i64 A):=by rw[World.cell?,U];rfl
     have m1:wr.cell? ⟨mb,1,none⟩=some (.int .i64 O):=by rw[World.cell?,U];rfl
     by_cases a9:e<D.length
     ·have b2:(e:Int)<(D.length:Int):=by omega
      obtain⟨I,X⟩:∃I,D[e]? =some I:=⟨_,ar a9⟩
      obtain⟨g2,b0,a5,_⟩:=cR F (by omega);simp only[aK]at a5;obtain⟨rfl,-,rfl⟩:=a5;obtain⟨q0,q1⟩:=lU ol D e I X;have a0:=(bP F (e*2) (by omega)).trans q0;have a1:=(bP F (e*2+1) (by omega)).trans q1;have hN:=HT.out e I X;generalize ((E != -2)&& !((D.take e).any (· ==E)))=b5 at*;generalize ((Dj ol I.toNat:Nat):Int)=bt at*;generalize gG ol I.toNat=bx at*;clear q0 q1 F U
      cases t1:bx==A<;>cases t2:bt==O<;>rw[t1,t2]at hN<;>
      (have HN:=af hN
       clear hN
       go_wp2_with fail
       go_quiet (fail)
       go_wp2
       go_roundw
       case rel=>exact⟨e+1,by go_num,by omega,by rw[<-HN.out];rfl,KQ.drewN _⟩
       case measure=>simp[intOf];omega)
     have bb:¬(e:Int)<(D.length:Int):=by omega
     obtain rfl:e=D.length:=by omega
     rw[fD];have dE:=Z.out.1;have KF:=HZ.out.2.2.trans KQ;have iG:=KF.size
     cases qk:(E != -2)&& !(D.any (· ==E))with
     |false=>
      rw[qk]at dE;have HF:=af (dE.trans (ay (by simp)));have HY:=af (ae F KF);clear dE F U KF;go_wp2
      go_roundw
      case rel=>exact⟨k+1,by go_num,by omega,by rw[HF.out];exact HY.out.1,HY.out.2⟩
      case measure=>simp[intOf];omega
     |true=>?_
     rw[qk]at dE;have HF:=af (dE.trans (aq rfl))
     have a6:=af (show xj ol E=[.int .i64 A,.int .i64 O]by
      have ap:(E== -2)=false:=by
       have:=(gy _ _▸qk).1;simpa using this
      have Y:=HA.out;unfold Vj at Y;rw[ap]at Y;simp only[bp,bj]at Y;have:=gr Array.toList Y
      exact this)
     clear dE qk
     go_wp2_with (at_builtin;refine hJ (P:=prog) _ rfl (.tmp 74) (.tmp 76) 276 rfl w.heap.size 301 i0 (.agg #[.int .i64 0,.int .i64 0]) 2 16 underlying276 bc bm bo br rfl (by decide) (.slice la D.length lc) D.length (gJ ol D) rfl (by exact F.alloc _) ⟨wr.heap.size,0,none⟩ 1 1 [.int .i64 A,.int .i64 O] rfl rfl (by exact lP _ _ _ _) (by intro u hu;simp at hu;rcases hu with rfl|rfl<;>rfl) (by unfold maxLen;omega) (by omega) (by simp;omega) ?_)
     intro v' w9 o9 g9 _;have K9:=(KF.alloc (.cells #[.int .i64 A,.int .i64 O] 301)).grown (by exact g9) (λj hj am=>by have:=(F.lt j hj).1;omega);have HO:=af (ae o9 K9);clear o9 g9 K9 F KF m0 m1 U;go_wp2
     go_roundw
     case rel=>
      refine⟨k+1,by go_num,by omega,?_,HO.out.2⟩;rw[HF.out,rA,a6.out];have:=HO.out.1;simpa using this
     case measure=>simp[intOf];omega
   have a8:(0:Int)<(ks.length:Int):=by omega
   have HF:=af (show wQ ol m.s trg (k+1)=D by rw[G.out.1,qo,show(ks.length==0)=false by simpa using a2];rfl);have Z:=af (ae J QD);clear G h2 aa Ie J QD;go_wp2
   go_roundw
   case rel=>exact⟨k+1,by go_num,by omega,by rw[HF.out];exact Z.out.1,Z.out.2⟩
   case measure=>simp[intOf];omega
  have bb:¬(k:Int)<(l.length:Int):=by omega
  obtain rfl:k=l.length:=by omega
  have a7:=af (show Ch.find ol m.s trg=wQ ol m.s trg l.length by unfold Ch.find wQ;rw[hR.len]);clear hr fW kh;go_wp2;go_ret;rw[a7.out];exact⟨_,rfl,ho,KW⟩
