import Derived.Test.YtnlbchmfcebeeaaGreatTXa
set_option maxHeartbeats 12800000
set_option maxRecDepth 100000
namespace Go.Proofs.YtnlbchmfcebeeaaGreat
open Go.Proofs.Tryz Ch
open Go.RowKit
def ajP(t:ByteArray)(B:Nat)(res:List RN)(w1 wr:World)(u4 u5:Value):Prop:=
 ∃(k:Nat) (up:Int) (l:List NV) (v:Value),u4= .int .i64 up/\u5= .int .i64 k/\iG wr B B l v/\gE t k up (Ch.mk l) res/\tC l k/\Kp (λi=>B<=i) w1 wr/\k<=300
def ajQ(w':World)(B cb:Nat)(res:List RN):Prop:=∃l v,iG w' B cb l v/\Ch.mk l=res/\tC l 300
theorem iG.behind{w w9:World}{B cb:Nat}{l:List NV}{g ln cap:Nat}(h:iG w B cb l (.slice (some ⟨g,0,none⟩) ln cap)){u:Value}(K:Kp (λi=>u.ownBlock=some i) w w9){e:TypeId}{size n:Nat}{xs:List Value}(hu:w.ownsRow B e size u n xs)
 (he:e≠223) (he2:e≠219) {k:Nat} {x:NV} (hk:l[k]? =some x):
 w9.cell? ⟨cb,0,none⟩=some (.slice (some ⟨g,0,none⟩) ln cap)/\(∀j,j<7->w9.cell? ⟨g,k*7+j,none⟩=(lV x)[j]?)/\(∀o,w9.frozen? ⟨g,o,none⟩=false):=by
 have hlt:=(List.getElem?_eq_some_iff.1 hk).1;have h1:=K.at_ h.1 (own_ne hu h.1 he2);have h2:=K.owns h.2.1.row (λi hi x=>cC hu h.2.1.row he i x hi);obtain rfl:=xh h2;refine⟨by rw[World.cell?,h1];rfl,λj hj=>?_,λo=>h2.frozenAt o⟩;rw[<-Ce l k x hk j hj];exact h2.cellAt (k*7+j) (by omega)
def QO(B k:Nat)(up:Int)(l:List NV)(v:Value)(w1 wx:World):Prop:=∃l1,iG wx B B l1 v/\Ch.mk l1=fQ (Ch.mk l) up/\tC l1 k/\l1.length=l.length/\Kp (λi=>B<=i) w1 wx
def Fv(l:List NV)(up:Int):Bool:=match vU (Ch.mk l) up with|some n=>n.kind==1|none=>false
theorem Fw(l:List NV){up:Int}(h:up<0):Fv l up=false:=by
 unfold Fv
 cases up with
 |ofNat k=>exact absurd h (by simp)
 |negSucc k=>rfl
theorem Ko{l:List NV}{m:Nat}{x:NV}(hx:l[m]? =some x):Fv l (m:Int)=(x.n.kind==1):=by
 have:vU (Ch.mk l) (m:Int)=some x.n:=by show(Ch.mk l)[m]? =_;unfold Ch.mk;rw[List.getElem?_map,hx];rfl
 unfold Fv;rw[this]
theorem Ch.TQ(L:List RN){up:Int}(h:up<0):fQ L up=L:=by
 unfold fQ
 cases up with
 |ofNat k=>exact absurd h (by simp)
 |negSucc k=>rfl
theorem Ch.Xq{l:List NV}{m:Nat}{x:NV}(hx:l[m]? =some x):fQ (Ch.mk l) (m:Int)=if x.n.kind==1 then Ch.mk (l.set m {x with n:={x.n with kind:=2}})else Ch.mk l:=by
 have:vU (Ch.mk l) (m:Int)=some x.n:=by show(Ch.mk l)[m]? =_;unfold Ch.mk;rw[List.getElem?_map,hx];rfl
 unfold fQ;rw[this];simp only
 split
 ·exact(Hf hx rfl).symm
 rfl
theorem Ch.aay(l:List NV)(n:RN)(a b c:Value):Ch.mk (l++[⟨n,a,b,c⟩])=Ch.mk l++[n]:=by simp[Ch.mk]
section
variable (w:World)
theorem OH(t:ByteArray)(res:List RN)(ht:t.size<=240)(hR:gE t 0 (-1) [] res):
 Calls prog 194 #[.string t] w λx w'=>x= .returned (.pointer (some ⟨w.heap.size,0,none⟩))/\ajQ w' w.heap.size w.heap.size res/\Kp (λ_=>False) w w':=by
 have hC:iG (w.alloc (.cells #[.slice none 0 0] 219)) w.heap.size w.heap.size [] (.slice none 0 0):=
  ⟨heap_alloc_new w _,⟨World.ownsRow_nil _ _ _ _,by simp,by simp,by simp,by simp,by simp,by simp,by simp⟩,Nat.le_refl _⟩
 have K0:Kp (λ_=>False) w (w.alloc (.cells #[.slice none 0 0] 219)):=(Kp.refl _ _).alloc _
 go_enter func194,ntmps194
 go_upto_region 4 with(fail)
 generalize w.alloc (.cells #[.slice none 0 0] 219)=w1 at*;generalize hB:w.heap.size=B at*
 go_loopw [4,5] (λu4 u5 wr=>Hid (ajP t B res w1 wr u4 u5)) (λ_ i _=>300-(intOf i).toNat)
 case atStart=>exact hid ⟨0,-1,[],.slice none 0 0,rfl,rfl,hC,hR,⟨Nat.zero_le _,by simp⟩,Kp.refl _ _,by omega⟩
 case round=>
  obtain⟨k,up,l,v,rfl,rfl,hF,hN,hbd,KW,aml⟩:=hrel.out;clear hrel;have zc:=hF.cell;have fc:=hF.free 0;have hlen:=hbd.1
  by_cases hlt:k<t.size
  ·have hlt':(k:Int)<(t.size:Int):=by omega
   obtain⟨c,hc⟩:∃c:Int,(t[k].toNat:Int)=c:=⟨_,rfl⟩
   have hpk:=hid ((nQ hlt).trans hc)
   cases qo:isOpen c with
   |true=>
    obtain⟨hk1,hup,hN'⟩:=hN.open hlt (by rw[hpk.out];exact qo);rw[hpk.out,nQ hk1]at hN';have E:=hid (J6 wr c)
    have Wi:(k:Int)+1<(t.size:Int):=by omega
    obtain⟨kd,hkd,hkc⟩:∃kd,kindOf c=kd/\((c=40/\kd=1)\/(c=91/\kd=3)\/(c=60/\kd=4)\/(c=42/\kd=5)):=by
     rcases mH _ qo with rfl|rfl|rfl|rfl
     ·exact⟨1,rfl,.inl ⟨rfl,rfl⟩⟩
     ·exact⟨3,rfl,.inr (.inl ⟨rfl,rfl⟩)⟩
     ·exact⟨4,rfl,.inr (.inr (.inl ⟨rfl,rfl⟩))⟩
     exact⟨5,rfl,.inr (.inr (.inr ⟨rfl,rfl⟩))⟩
    rw[hkd]at E hN';have HN':=hid hN';have HH:=hid (ae hF (ae hbd (ae KW hup)));clear hF hN hN' hbd KW hup hkd
    obtain⟨nm,hnm⟩:∃nm:Int,((t[k+1]'hk1).toNat:Int)=nm:=⟨_,rfl⟩
    have wk1:IntKind.i64.wrap ((k:Int)+1)=(k:Int)+1:=eU (by omega)
    have tk1:((k:Int)+1).toNat=k+1:=by omega
    have ajR:(0:Int)<=(k:Int)+1:=by omega
    have HKC:=hid hkc;have hop:=hid qo;clear hkc qo
    go_upto_region 7 with(fail)
    go_cut [20]from 20 to 21 (λb wx=>b= .bool (c==40)/\wx=wr)
    case first=>
     go_wp2_with fail
     go_meet
     exact⟨rfl,rfl⟩
    case rest=>
    obtain⟨rfl,e2⟩:=hcut;rw[e2];clear e2;generalize hq0:(c==40)=q0;have HQ:=hid hq0;clear hq0
    go_upto_if 20 with(fail)
    go_cut [20,22]from 22 to 24 (λb _ wx=>b= .bool true/\wx=wr)
    case first=>
     rcases mH _ hop.out with rfl|rfl|rfl|rfl
     all_goals
      obtain rfl:=HQ.out
      go_wp2_with fail
      go_meet
      exact⟨rfl,rfl⟩
    case rest=>
    obtain⟨rfl,e2⟩:=hcut;rw[e2];clear e2
    go_wp2_with fail
    refine bH E ?_;rintro y w2 ⟨rfl,e2⟩;rw[e2];clear E e2 w2
    go_upto_region 12 with(fail)
    go_cut [41]from 29 to 40 (λb wx=>b= .bool (Fv l up)/\wx=wr)
    case first=>
     obtain⟨hF,hbd,KW,hup⟩:=HH.out
     by_cases hneg:up<0
     ·have hneg':¬(0:Int)<=up:=by omega
      have hM:=hid (Fw l hneg);clear hF hbd KW hup
      go_wp2_with fail
      go_meet
      rw[hM.out];exact⟨rfl,rfl⟩
     obtain⟨n,hn⟩:=Option.isSome_iff_exists.1 (hup.resolve_left hneg);obtain⟨m,x,rfl,hx,rfl,J_⟩:=Cj hn;obtain⟨g,cap,rfl,hBg,hcell,hfr⟩:=hF.2.1.form hx;have z1:wr.cell? ⟨g,m*7+1,none⟩=some (.int .i64 x.n.kind):=hcell 1 (by omega)
     have hm':(m:Int)<(l.length:Int):=by omega
     have hM:=hid (Ko hx);clear hF hbd KW hup hn hcell hfr hneg
     go_wp2_with fail
     go_meet
     rw[hM.out];exact⟨rfl,rfl⟩
    case rest=>
    obtain⟨rfl,rfl⟩:=hcut;generalize hnb:Fv l up=nb;have HNB:=hid hnb;clear hnb
    go_upto_if 41 with(fail)
    go_cut [42]from 42 to 48 (λ_ wx=>QO B k up l v w1 wx)
    case first=>
     obtain⟨hF,hbd,KW,hup⟩:=HH.out
     by_cases hneg:up<0
     ·have hM:=hid (show QO B k up l v w1 wc from⟨l,hF,(TQ _ hneg).symm,hbd,rfl,KW⟩)
      obtain rfl:nb=false:=HNB.out.symm.trans (Fw l hneg);clear hF hbd KW hup
      go_wp2_with fail
      go_meet
      exact hM.out
     obtain⟨n,hn⟩:=Option.isSome_iff_exists.1 (hup.resolve_left hneg);obtain⟨m,x,rfl,hx,rfl,J_⟩:=Cj hn;obtain⟨g,cap,rfl,hBg,hcell,hfr⟩:=hF.2.1.form hx;have z1:wc.cell? ⟨g,m*7+1,none⟩=some (.int .i64 x.n.kind):=hcell 1 (by omega);have f1:=hfr (m*7+1)
     have hm':(m:Int)<(l.length:Int):=by omega
     have hat:=Xq hx;have hq:=Ko hx
     cases qk:x.n.kind==1 with
     |true=>
      rw[qk]at hat hq;have hM:=hid (show QO B k (m:Int) l _ w1 (wc.setCell ⟨g,m*7+1,none⟩ (.int .i64 2))from⟨_,hF.setKind hx 2,hat.symm,hbd.kind hx 2,by simp,KW.setCell (p:=⟨g,m*7+1,none⟩) (λ_=>hBg) _⟩);obtain rfl:nb=true:=HNB.out.symm.trans hq;clear hF hbd KW hup hat hn hcell hfr hneg qk hq
      go_wp2_with fail
      go_meet
      exact hM.out
     |false=>?_
     rw[qk]at hat hq;have hM:=hid (show QO B k (m:Int) l _ w1 wc from⟨l,hF,hat.symm,hbd,rfl,KW⟩);obtain rfl:nb=false:=HNB.out.symm.trans hq;clear hF hbd KW hup hat hn hcell hfr hneg qk hq
     go_wp2_with fail
     go_meet
     exact hM.out
    case rest=>
     obtain⟨l1,hF1,hmk,adp,hl1,KW1⟩:=hcut;clear zc fc HH;have zc:=hF1.cell;have hzc:=(hF1.ai ((Kp.refl _ _).alloc (.cells #[.int .u8 nm,.int .i64 kd,.int .i64 up,.int .i64 ((k:Int)+1),.slice none 0 0,.slice none 0 0,.slice none 0 0] 223))).cell;have hlow:=hF1.low;have hlen1:=adp.1;obtain⟨i0,hi,hz0,hz1,hz2⟩:=info_parts aam;obtain⟨g1,c1,w9,IB,o9,g9,Hl⟩:=dC (P:=prog) (wc.drew.alloc (.cells #[.int .u8 nm,.int .i64 kd,.int .i64 up,.int .i64 ((k:Int)+1),.slice none 0 0,.slice none 0 0,.slice none 0 0] 223)) B 217 217 223 i0 (.agg #[.int .u8 0,.int .i64 0,.int .i64 0,.int .i64 0,.slice none 0 0,.slice none 0 0,.slice none 0 0]) 7 104 underlying217 hi hz0 hz1 hz2 rfl (by decide) v l1.length (fh l1) (by exact hF1.2.1.row.alloc _) ⟨wc.heap.size,0,none⟩ 1 1 [.int .u8 nm,.int .i64 kd,.int .i64 up,.int .i64 ((k:Int)+1),.slice none 0 0,.slice none 0 0,.slice none 0 0] rfl (by exact gB _ _ _) (by intro u hu;simp at hu;rcases hu with rfl|rfl|rfl|rfl|rfl<;>rfl) (by decide) (by unfold maxLen;omega) (by omega) (by simp;omega);have K9:Kp (λi=>v.ownBlock=some i) wc w9:=Kp.grown (by exact((Kp.refl _ _).alloc (.cells #[.int .u8 nm,.int .i64 kd,.int .i64 up,.int .i64 ((k:Int)+1),.slice none 0 0,.slice none 0 0,.slice none 0 0] 223)).drew) g9 (λi hi _=>hi);have hc9:=K9.at_ hF1.1 hF1.ne
     have y1:w9.cell? ⟨B,0,none⟩=some v:=by rw[World.cell?,hc9];rfl
     have yf:w9.frozen? ⟨B,0,none⟩=false:=by simp[World.frozen?,hc9]
     have DG:iG (w9.setCell ⟨B,0,none⟩ (.slice (some ⟨g1,0,none⟩) (l1.length+1) c1)) B B (l1++[⟨⟨nm,kd,up,(k:Int)+1,[],[],[]⟩,.slice none 0 0,.slice none 0 0,.slice none 0 0⟩]) (.slice (some ⟨g1,0,none⟩) (l1.length+1) c1):=iG.push (w:=(wc.alloc (.cells #[.int .u8 nm,.int .i64 kd,.int .i64 up,.int .i64 ((k:Int)+1),.slice none 0 0,.slice none 0 0,.slice none 0 0] 223)).drew) (hF1.ai ((Kp.refl (λ_=>False) wc).alloc (.cells #[.int .u8 nm,.int .i64 kd,.int .i64 up,.int .i64 ((k:Int)+1),.slice none 0 0,.slice none 0 0,.slice none 0 0] 223)).drew) (by exact g9) ⟨rfl,rfl,rfl⟩ o9;have KZ:Kp (λi=>B<=i) w1 (w9.setCell ⟨B,0,none⟩ (.slice (some ⟨g1,0,none⟩) (l1.length+1) c1)):=(KW1.trans' K9 (λi _ hi=>(hF1.2.1.row.lt i hi).1)).setCell (p:=⟨B,0,none⟩) (λ_=>Nat.le_refl _) _;have H9:=hid (ae DG (ae KZ (ae hmk (ae (adp.push (n:=⟨nm,kd,up,(k:Int)+1,[],[],[]⟩) ⟨rfl,rfl,rfl⟩ (a:=.slice none 0 0) (b:=.slice none 0 0) (c:=.slice none 0 0)) hl1))));clear o9 g9 Hl K9 hc9 DG KZ hF1 hmk adp KW1
     go_upto_region 14 with(fail)
     refine az (λ_=>True) (by kernel_rfl) ?_;refine aU 0 49 (.pointer (some ⟨B,0,none⟩)) trivial ?_;refine aU 1 50 (.pointer (some ⟨B,0,none⟩)) trivial ?_;refine aU 2 51 (.pointer (some ⟨B,0,none⟩)) trivial ?_;refine aU 3 52 (.pointer (some ⟨B,0,none⟩)) trivial ?_;refine aU 5 54 (.string t) trivial ?_;refine aU 6 55 (.int .i64 (k:Int)) trivial ?_;refine dM 7 56 (.int .i64 ((k:Int)+1)) rfl (λw' _=>by simp[execOp,Act.eval,go_sem,wk1]) trivial ?_;refine dM 8 57 (.int .u8 nm) rfl (λw' _=>by simp[execOp,Act.eval,go_sem,Wi,ajR,tk1,hnm]) trivial ?_;refine aU 9 58 (.int .i64 kd) trivial ?_;refine aU 10 59 (.int .i64 up) trivial ?_;refine aU 11 60 (.int .i64 (k:Int)) trivial ?_;refine dM 12 61 (.int .i64 ((k:Int)+1)) rfl (λw' _=>by simp[execOp,Act.eval,go_sem,wk1]) trivial ?_;refine aU 13 62 (.agg #[.int .u8 nm,.int .i64 kd,.int .i64 up,.int .i64 ((k:Int)+1),.slice none 0 0,.slice none 0 0,.slice none 0 0]) trivial ?_
     refine BC 4 14 53 63 v (.slice (some ⟨wc.heap.size,0,none⟩) 1 1) (wc.drew.alloc (.cells #[.int .u8 nm,.int .i64 kd,.int .i64 up,.int .i64 ((k:Int)+1),.slice none 0 0,.slice none 0 0,.slice none 0 0] 223)) (by decide) (by kernel_rfl) (by kernel_rfl) (by kernel_rfl) rfl rfl rfl rfl rfl rfl (by simp[execOp,Act.eval,go_sem,zc]) (by simp[execOp,Act.eval,Act.put,go_sem]) (by simp[execOp,Act.eval,go_sem]) (by simp[execOp,Act.eval,Act.put,go_sem,hzc]) trivial trivial ?_;simp only[Act.put,pA,pB,pC];refine jD 15 ?_;refine BB (some 64) rfl (.slice (some ⟨g1,0,none⟩) (l1.length+1) c1) w9 (by simp[execOp,resolve,invoke,builtin,Act.eval,IB]) ?_;simp only[Act.put,pA,pB,pC];refine⟨trivial,?_⟩;refine aU 16 65 (.pointer (some ⟨B,0,none⟩)) trivial ?_;refine aU 17 66 (.pointer (some ⟨B,0,none⟩)) trivial ?_;refine jD 18 ?_;unfold Oper.wp;simp[execOp,Act.eval,go_sem,y1,yf];refine wpAnyH_done (by kernel_rfl) (NoPanic.normal ?_) _;generalize w9.setCell ⟨B,0,none⟩ (.slice (some ⟨g1,0,none⟩) (l1.length+1) c1)=wz at*;have zz:=H9.out.1.cell;clear y1 yf IB zc hzc
     rcases HKC.out with⟨rfl,rfl⟩|⟨rfl,rfl⟩|⟨rfl,rfl⟩|⟨rfl,rfl⟩
     all_goals
      go_wp2
      go_roundw
      case rel=>
       obtain⟨DG,KZ,hmk,yi,hl1⟩:=H9.out;have hRR:=HN'.out
       have J_:((Ch.mk l).length:Int)=(l1.length:Int):=by simp[Ch.mk,hl1]
       rw[<-hmk,J_,hnm]at hRR;rw[<-aay l1 _ (.slice none 0 0) (.slice none 0 0) (.slice none 0 0)]at hRR
       first
        |exact hid ⟨k+1+1,(l1.length:Int),_,_,by first|rfl|go_num,by go_num,DG,hRR,yi.mono (by omega),KZ,by omega⟩
        |exact hid ⟨k+2+1,up,_,_,rfl,by go_num,DG,hRR,yi.mono (by omega),KZ,by omega⟩
        |exact hid ⟨k+1+1,up,_,_,rfl,by go_num,DG,hRR,yi.mono (by omega),KZ,by omega⟩
      case measure=>simp[intOf];omega
   |false=>?_
   have qo':(c==40)=false/\(c==91)=false/\(c==60)=false/\(c==42)=false:=by
    simp only[isOpen,Bool.or_eq_false_iff]at qo;exact⟨qo.1.1.1,qo.1.1.2,qo.1.2,qo.2⟩
   obtain⟨b40,b91,b60,b42⟩:=qo'
   cases qc:(c==41||c==93)with
   |true=>
    obtain⟨n,hn,hN'⟩:=hN.close hlt (by rw[hpk.out];exact qc);obtain⟨m,x,rfl,hx,rfl,J_⟩:=Cj hn;obtain⟨g,cap,rfl,hBg,hcell,hfr⟩:=hF.2.1.form hx;have z2:wr.cell? ⟨g,m*7+2,none⟩=some (.int .i64 x.n.parent):=hcell 2 (by omega);have HH:=hid (ae hF (ae hN' (ae hbd KW)));clear hF hN hN' hbd KW hcell hfr qo hn
    have hm':(m:Int)<(l.length:Int):=by omega
    rcases(by simpa using qc:c=41\/c=93)with rfl|rfl
    all_goals
     clear qc;go_wp2
     go_roundw
     case rel=>
      obtain⟨hF,hN',hbd,KW⟩:=HH.out;exact hid ⟨k+1,x.n.parent,l,_,rfl,by go_num,hF,hN',hbd.mono (by omega),KW,by omega⟩
     case measure=>simp[intOf];omega
   |false=>?_
   have qc':(c==41)=false/\(c==93)=false:=by simpa using qc
   obtain⟨b41,b93⟩:=qc'
   cases U9:c==58 with
   |true=>
    obtain rfl:c=58:=by simpa using U9
    obtain⟨n,hn,hk2,hre,_,hN'⟩:=hN.colon hlt hpk.out;obtain⟨m,x,rfl,hx,rfl,J_⟩:=Cj hn;obtain⟨g,cap,rfl,hBg,hcell,hfr⟩:=hF.2.1.form hx;have hxm:=List.mem_of_getElem? hx;have z6:wr.cell? ⟨g,m*7+6,none⟩=some x.tv:=hcell 6 (by omega);have HN':=hid hN';have E:=hid (Hg wr t (k+1) ht hk2)
    have ao0:k+1<=fZ t (k+1)+1:=by assumption
    generalize fZ t (k+1)=e at*
    have hzc:∀o,(wr.alloc o).cell? ⟨B,0,none⟩=some (.slice (some ⟨g,0,none⟩) l.length cap):=λo=>(hF.ai ((Kp.refl _ _).alloc o)).cell
    obtain⟨g',cap',hv',_,hcell',_⟩:=(hF.2.1.ai ((Kp.refl _ _).alloc (.cells #[.string (t.extract (k+1) (e+1)),.int .i64 ((k:Int)+1)] 292))).form hx;simp only[Value.slice.injEq,Option.some.injEq,Addr.mk.injEq,true_and,and_true]at hv';obtain⟨rfl,rfl⟩:=hv';have z6a:(wr.alloc (.cells #[.string (t.extract (k+1) (e+1)),.int .i64 ((k:Int)+1)] 292)).cell? ⟨g,m*7+6,none⟩=some x.tv:=hcell' 6 (by omega)
    have hm':(m:Int)<(l.length:Int):=by omega
    have wk1:IntKind.i64.wrap ((k:Int)+1)=(k:Int)+1:=eU (by omega);have we1:IntKind.i64.wrap ((e:Int)+1)=(e:Int)+1:=eU (by omega)
    have tk1:((k:Int)+1).toNat=k+1:=by omega
    have te1:((e:Int)+1).toNat=e+1:=by omega
    have he1:(e:Int)+1<=(t.size:Int):=by omega
    have hke:(k:Int)+1<=(e:Int)+1:=by omega
    have hk0:(0:Int)<=(k:Int)+1:=by omega
    have he0:(0:Int)<=(e:Int)+1:=by omega
    have hb3:=(hbd.2 x hxm).2.2;have hlow:=hF.low
    have hgB:g≠B:=λe=>hF.ne (by simp[Value.ownBlock,e])
    have HH:=hid (ae hF (ae hbd KW));obtain⟨i0,hi,hz0,hz1,hz2⟩:=info_parts aan;clear hF hN hN' hbd KW hcell hcell' hfr qo qc hn U9
    go_wp2_with fail
    refine bH E ?_;rintro y w2 ⟨rfl,e2⟩;rw[e2];clear E e2 w2
    go_upto_region 25 with(fail)
    have hS0:wr.drew.cell? ⟨B,0,none⟩=some (.slice (some ⟨g,0,none⟩) l.length cap):=zc;have hS1:(wr.drew.alloc (.cells #[.string (t.extract (k+1) (e+1)),.int .i64 ((k:Int)+1)] 292)).cell? ⟨B,0,none⟩=some (.slice (some ⟨g,0,none⟩) l.length cap):=hzc _;refine az (λw'=>w'.cell? ⟨B,0,none⟩=some (.slice (some ⟨g,0,none⟩) l.length cap)) (by kernel_rfl) ?_;refine aU 0 98 (.pointer (some ⟨B,0,none⟩)) hS0 ?_;refine aU 1 99 (.pointer (some ⟨B,0,none⟩)) hS0 ?_;refine aU 2 100 (.pointer (some ⟨B,0,none⟩)) hS0 ?_;refine dM 3 101 (.slice (some ⟨g,0,none⟩) l.length cap) rfl (λw' hS=>by simp[execOp,Act.eval,go_sem,hS]) hS0 ?_;refine aU 4 102 (.int .i64 (m:Int)) hS0 ?_;refine aU 5 103 (.pointer (some ⟨B,0,none⟩)) hS0 ?_;refine aU 6 104 (.pointer (some ⟨B,0,none⟩)) hS0 ?_;refine aU 7 105 (.pointer (some ⟨B,0,none⟩)) hS0 ?_;refine dM 8 106 (.slice (some ⟨g,0,none⟩) l.length cap) rfl (λw' hS=>by simp[execOp,Act.eval,go_sem,hS]) hS0 ?_;refine aU 9 107 (.int .i64 (m:Int)) hS0 ?_;refine dM 10 108 (.pointer (some ⟨g,m*7,none⟩)) rfl (λw' _=>by simp[execOp,Act.eval,go_sem,hm']) hS0 ?_;refine aU 11 109 (.pointer (some ⟨g,m*7+6,none⟩)) hS0 ?_
    refine aU 13 111 (.string t) hS0 ?_;refine aU 14 112 (.int .i64 (k:Int)) hS0 ?_;refine dM 15 113 (.int .i64 ((k:Int)+1)) rfl (λw' _=>by simp[execOp,Act.eval,go_sem,wk1]) hS0 ?_;refine aU 16 114 (.int .i64 (e:Int)) hS0 ?_;refine dM 17 115 (.int .i64 ((e:Int)+1)) rfl (λw' _=>by simp[execOp,Act.eval,go_sem,we1]) hS0 ?_;refine dM 18 116 (.string (t.extract (k+1) (e+1))) rfl (λw' _=>by simp[execOp,Act.eval,go_sem,he1,hk0,hke,tk1,te1]) hS0 ?_;refine aU 19 117 (.int .i64 (k:Int)) hS0 ?_;refine dM 20 118 (.int .i64 ((k:Int)+1)) rfl (λw' _=>by simp[execOp,Act.eval,go_sem,wk1]) hS0 ?_;refine aU 21 119 (.agg #[.string (t.extract (k+1) (e+1)),.int .i64 ((k:Int)+1)]) hS0 ?_;obtain⟨g1,c1,w9,IB,o9,g9,Hl⟩:=dC (P:=prog) (wr.drew.alloc (.cells #[.string (t.extract (k+1) (e+1)),.int .i64 ((k:Int)+1)] 292)) B 221 221 292 i0 (.agg #[.string ⟨#[]⟩,.int .i64 0]) 2 24 underlying221 hi hz0 hz1 hz2 rfl (by decide) x.tv x.n.trans.length (gX x.n.trans) (by exact(HH.out.1.2.1.iX x hxm).alloc _) ⟨wr.heap.size,0,none⟩ 1 1 [.string (t.extract (k+1) (e+1)),.int .i64 ((k:Int)+1)] rfl (by exact gB _ _ _) (by intro u hu;simp at hu;rcases hu with rfl|rfl<;>rfl) (by decide) (by unfold maxLen;omega) (by omega) (by simp;omega);have K9:Kp (λi=>x.tv.ownBlock=some i) wr w9:=Kp.grown (by exact((Kp.refl _ _).alloc (.cells #[.string (t.extract (k+1) (e+1)),.int .i64 ((k:Int)+1)] 292)).drew) g9 (λi hi _=>hi);obtain⟨y1,y2,y3⟩:=HH.out.1.behind K9 (HH.out.1.2.1.iX x hxm) (by decide) (by decide) hx
    have y6:w9.cell? ⟨g,m*7+6,none⟩=some x.tv:=y2 6 (by omega);have yf:=y3 (m*7+6);have H9:=hid (ae o9 (ae g9 (ae Hl K9)));clear o9 g9 Hl K9 y2 y3;refine BC 12 22 110 120 x.tv (.slice (some ⟨wr.heap.size,0,none⟩) 1 1) (wr.drew.alloc (.cells #[.string (t.extract (k+1) (e+1)),.int .i64 ((k:Int)+1)] 292)) (by decide) (by kernel_rfl) (by kernel_rfl) (by kernel_rfl) rfl rfl rfl rfl rfl rfl (by simp[execOp,Act.eval,go_sem,z6]) (by simp[execOp,Act.eval,Act.put,go_sem]) (by simp[execOp,Act.eval,go_sem]) (by simp[execOp,Act.eval,Act.put,go_sem,z6a]) hS0 hS1 ?_;simp only[Act.put,pA,pB,pC];refine jD 23 ?_;refine BB (some 121) rfl (.slice (some ⟨g1,0,none⟩) (x.n.trans.length+1) c1) w9 (by simp[execOp,resolve,invoke,builtin,Act.eval,IB]) ?_;simp only[Act.put,pA,pB,pC];refine⟨y1,?_⟩;refine dM 24 122 (.pointer (some ⟨g,m*7,none⟩)) rfl (λw' _=>by simp[execOp,Act.eval,go_sem,hm']) y1 ?_;refine aU 25 123 (.pointer (some ⟨g,m*7+6,none⟩)) y1 ?_;refine jD 26 ?_;unfold Oper.wp;simp[execOp,Act.eval,go_sem,y6,yf];refine⟨y1,wpAnyH_done (by kernel_rfl) (NoPanic.normal ?_) _⟩;obtain⟨o9,g9,Hl,K9⟩:=H9.out;have hFa:=HH.out.1.ai ((Kp.refl (λ_=>False) wr).alloc (.cells #[.string (t.extract (k+1) (e+1)),.int .i64 ((k:Int)+1)] 292)).drew
    have DG:=iG.Cf hFa hx ⟨t.extract (k+1) (e+1),(k:Int)+1⟩ o9 (by exact g9) (by exact Hl);have KZ:Kp (λi=>B<=i) w1 (w9.setCell ⟨g,m*7+6,none⟩ (.slice (some ⟨g1,0,none⟩) (x.n.trans.length+1) c1)):=((HH.out.2.2.trans' K9 (λi _ hi=>(((HH.out.1.2.1.iX x hxm).lt i hi).1))).setCell (p:=⟨g,m*7+6,none⟩) (λ_=>hBg) _)
    generalize w9.setCell ⟨g,m*7+6,none⟩ (.slice (some ⟨g1,0,none⟩) (x.n.trans.length+1) c1)=wz at*;have HZ:=hid (ae DG KZ);clear hS0 hS1 y1 y6 yf IB o9 g9 Hl K9 hFa DG KZ H9 zc hzc z6 z6a;go_wp2
    go_roundw
    case rel=>
     obtain⟨hF,hbd,KW⟩:=HH.out;obtain⟨DG,KZ⟩:=HZ.out;have hb:=hbd.2 x hxm;refine hid ⟨e+1,(m:Int),_,_,rfl,by go_num,DG,?_,hbd.set (by omega) ⟨by simp only;omega,by simp only;omega,by simp;omega⟩,KZ,by omega⟩;rw[Hf (f:=λn=>{n with trans:=n.trans++[⟨t.extract (k+1) (e+1),(k:Int)+1⟩]}) hx rfl];exact HN'.out
    case measure=>simp[intOf];omega
   |false=>?_
   cases qb:(c==94||c==36)with
   |true=>
    obtain⟨n,hn,hun,hN'⟩:=hN.blk hlt (by rw[hpk.out];exact qb);obtain⟨m,x,rfl,hx,rfl,J_⟩:=Cj hn;obtain⟨g,cap,rfl,hBg,hcell,hfr⟩:=hF.2.1.form hx;have hxm:=List.mem_of_getElem? hx;rw[hpk.out]at hN';have HN':=hid hN';have E:=hid (vF wr t k 59 ht);have ao3:=Ck t k 59;generalize gR t k 59=e at*
    have hm':(m:Int)<(l.length:Int):=by omega
    have wk1:IntKind.i64.wrap ((k:Int)+1)=(k:Int)+1:=eU (by omega)
    have tk1:((k:Int)+1).toNat=k+1:=by omega
    have he1:(e:Int)<=(t.size:Int):=by omega
    have hke:(k:Int)+1<=(e:Int):=by omega
    have hk0:(0:Int)<=(k:Int)+1:=by omega
    have hlow:=hF.low
    have hgB:g≠B:=λe=>hF.ne (by simp[Value.ownBlock,e])
    obtain⟨i0,hi,hz0,hz1,hz2⟩:=info_parts aao
    rcases(by simpa using qb:c=94\/c=36)with rfl|rfl
    ·have z6:wr.cell? ⟨g,m*7+4,none⟩=some x.ev:=hcell 4 (by omega)
     have hzc:∀o,(wr.alloc o).cell? ⟨B,0,none⟩=some (.slice (some ⟨g,0,none⟩) l.length cap):=λo=>(hF.ai ((Kp.refl _ _).alloc o)).cell
     obtain⟨g',cap',hv',_,hcell',_⟩:=(hF.2.1.ai ((Kp.refl _ _).alloc (.cells #[.string (t.extract (k+1) e)] 9))).form hx;simp only[Value.slice.injEq,Option.some.injEq,Addr.mk.injEq,true_and,and_true]at hv';obtain⟨rfl,rfl⟩:=hv';have z6a:(wr.alloc (.cells #[.string (t.extract (k+1) e)] 9)).cell? ⟨g,m*7+4,none⟩=some x.ev:=hcell' 4 (by omega)
     have hb3:=(hbd.2 x hxm)
     have HH:=hid (ae hF (ae hbd KW));clear hF hN hN' hbd KW hcell hcell' hfr qo qc hn qb
     go_wp2_with fail
     refine bH E ?_;rintro y w2 ⟨rfl,e2⟩;rw[e2];clear E e2 w2
     go_upto_region 31 with(fail)
     have hS0:wr.drew.cell? ⟨B,0,none⟩=some (.slice (some ⟨g,0,none⟩) l.length cap):=zc;have hS1:(wr.drew.alloc (.cells #[.string (t.extract (k+1) e)] 9)).cell? ⟨B,0,none⟩=some (.slice (some ⟨g,0,none⟩) l.length cap):=hzc _;refine az (λw'=>w'.cell? ⟨B,0,none⟩=some (.slice (some ⟨g,0,none⟩) l.length cap)) (by kernel_rfl) ?_;refine aU 0 135 (.pointer (some ⟨B,0,none⟩)) hS0 ?_;refine aU 1 136 (.pointer (some ⟨B,0,none⟩)) hS0 ?_;refine aU 2 137 (.pointer (some ⟨B,0,none⟩)) hS0 ?_;refine dM 3 138 (.slice (some ⟨g,0,none⟩) l.length cap) rfl (λw' hS=>by simp[execOp,Act.eval,go_sem,hS]) hS0 ?_;refine aU 4 139 (.int .i64 (m:Int)) hS0 ?_;refine aU 5 140 (.pointer (some ⟨B,0,none⟩)) hS0 ?_;refine aU 6 141 (.pointer (some ⟨B,0,none⟩)) hS0 ?_;refine aU 7 142 (.pointer (some ⟨B,0,none⟩)) hS0 ?_;refine dM 8 143 (.slice (some ⟨g,0,none⟩) l.length cap) rfl (λw' hS=>by simp[execOp,Act.eval,go_sem,hS]) hS0 ?_;refine aU 9 144 (.int .i64 (m:Int)) hS0 ?_;refine dM 10 145 (.pointer (some ⟨g,m*7,none⟩)) rfl (λw' _=>by simp[execOp,Act.eval,go_sem,hm']) hS0 ?_;refine aU 11 146 (.pointer (some ⟨g,m*7+4,none⟩)) hS0 ?_
     refine aU 13 148 (.string t) hS0 ?_;refine aU 14 149 (.int .i64 (k:Int)) hS0 ?_;refine dM 15 150 (.int .i64 ((k:Int)+1)) rfl (λw' _=>by simp[execOp,Act.eval,go_sem,wk1]) hS0 ?_;refine aU 16 151 (.int .i64 (e:Int)) hS0 ?_;refine dM 17 152 (.string (t.extract (k+1) e)) rfl (λw' _=>by simp[execOp,Act.eval,go_sem,he1,hk0,hke,tk1]) hS0 ?_;obtain⟨g1,c1,w9,IB,o9,g9,Hl⟩:=dC (P:=prog) (wr.drew.alloc (.cells #[.string (t.extract (k+1) e)] 9)) B 220 220 9 i0 (.string ⟨#[]⟩) 1 16 underlying220 hi hz0 hz1 hz2 rfl (by decide) x.ev x.n.enter.length (kF x.n.enter) (by exact(HH.out.1.2.1.rR x hxm).alloc _) ⟨wr.heap.size,0,none⟩ 1 1 [.string (t.extract (k+1) e)] rfl (by exact gB _ _ _) (by intro u hu;simp at hu;subst hu;rfl) (by decide) (by unfold maxLen;omega) (by omega) (by simp;omega);have K9:Kp (λi=>x.ev.ownBlock=some i) wr w9:=Kp.grown (by exact((Kp.refl _ _).alloc (.cells #[.string (t.extract (k+1) e)] 9)).drew) g9 (λi hi _=>hi);obtain⟨y1,y2,y3⟩:=HH.out.1.behind K9 (HH.out.1.2.1.rR x hxm) (by decide) (by decide) hx;have y6:w9.cell? ⟨g,m*7+4,none⟩=some x.ev:=y2 4 (by omega);have yf:=y3 (m*7+4);have H9:=hid (ae o9 (ae g9 (ae Hl K9)));clear o9 g9 Hl K9 y2 y3;refine BC 12 18 147 153 x.ev (.slice (some ⟨wr.heap.size,0,none⟩) 1 1) (wr.drew.alloc (.cells #[.string (t.extract (k+1) e)] 9)) (by decide) (by kernel_rfl) (by kernel_rfl) (by kernel_rfl) rfl rfl rfl rfl rfl rfl (by simp[execOp,Act.eval,go_sem,z6]) (by simp[execOp,Act.eval,Act.put,go_sem]) (by simp[execOp,Act.eval,go_sem]) (by simp[execOp,Act.eval,Act.put,go_sem,z6a]) hS0 hS1 ?_;simp only[Act.put,pA,pB,pC];refine jD 19 ?_;refine BB (some 154) rfl (.slice (some ⟨g1,0,none⟩) (x.n.enter.length+1) c1) w9 (by simp[execOp,resolve,invoke,builtin,Act.eval,IB]) ?_;simp only[Act.put,pA,pB,pC];refine⟨y1,?_⟩
     refine dM 20 155 (.pointer (some ⟨g,m*7,none⟩)) rfl (λw' _=>by simp[execOp,Act.eval,go_sem,hm']) y1 ?_;refine aU 21 156 (.pointer (some ⟨g,m*7+4,none⟩)) y1 ?_;refine jD 22 ?_;unfold Oper.wp;simp[execOp,Act.eval,go_sem,y6,yf];refine⟨y1,wpAnyH_done (by kernel_rfl) (NoPanic.normal ?_) _⟩;obtain⟨o9,g9,Hl,K9⟩:=H9.out;have hFa:=HH.out.1.ai ((Kp.refl (λ_=>False) wr).alloc (.cells #[.string (t.extract (k+1) e)] 9)).drew
     have DG:=iG.Cg hFa hx (t.extract (k+1) e) o9 (by exact g9) (by exact Hl);have KZ:Kp (λi=>B<=i) w1 (w9.setCell ⟨g,m*7+4,none⟩ (.slice (some ⟨g1,0,none⟩) (x.n.enter.length+1) c1)):=((HH.out.2.2.trans' K9 (λi _ hi=>(((HH.out.1.2.1.rR x hxm).lt i hi).1))).setCell (p:=⟨g,m*7+4,none⟩) (λ_=>hBg) _)
     generalize w9.setCell ⟨g,m*7+4,none⟩ (.slice (some ⟨g1,0,none⟩) (x.n.enter.length+1) c1)=wz at*;have HZ:=hid (ae DG KZ);clear hS0 hS1 y1 y6 yf IB o9 g9 Hl K9 hFa DG KZ H9 zc hzc z6 z6a;go_wp2
     go_roundw
     case rel=>
      obtain⟨hF,hbd,KW⟩:=HH.out;obtain⟨DG,KZ⟩:=HZ.out;have hb:=hbd.2 x hxm;refine hid ⟨e+1,(m:Int),_,_,rfl,by go_num,DG,?_,hbd.set (by omega) ⟨by simp;omega,by simp only;omega,by simp only;omega⟩,KZ,by omega⟩;rw[Hf (f:=λn=>if((94:Int)==94)=true then {n with enter:=n.enter++[t.extract (k+1) e]}else {n with leave:=n.leave++[t.extract (k+1) e]}) hx rfl];exact HN'.out
     case measure=>simp[intOf];omega
    have z6:wr.cell? ⟨g,m*7+5,none⟩=some x.lv:=hcell 5 (by omega)
    have hzc:∀o,(wr.alloc o).cell? ⟨B,0,none⟩=some (.slice (some ⟨g,0,none⟩) l.length cap):=λo=>(hF.ai ((Kp.refl _ _).alloc o)).cell
    obtain⟨g',cap',hv',_,hcell',_⟩:=(hF.2.1.ai ((Kp.refl _ _).alloc (.cells #[.string (t.extract (k+1) e)] 9))).form hx;simp only[Value.slice.injEq,Option.some.injEq,Addr.mk.injEq,true_and,and_true]at hv';obtain⟨rfl,rfl⟩:=hv';have z6a:(wr.alloc (.cells #[.string (t.extract (k+1) e)] 9)).cell? ⟨g,m*7+5,none⟩=some x.lv:=hcell' 5 (by omega)
    have hb3:=(hbd.2 x hxm)
    have HH:=hid (ae hF (ae hbd KW));clear hF hN hN' hbd KW hcell hcell' hfr qo qc hn qb
    go_wp2_with fail
    refine bH E ?_;rintro y w2 ⟨rfl,e2⟩;rw[e2];clear E e2 w2
    go_upto_region 32 with(fail)
    have hS0:wr.drew.cell? ⟨B,0,none⟩=some (.slice (some ⟨g,0,none⟩) l.length cap):=zc;have hS1:(wr.drew.alloc (.cells #[.string (t.extract (k+1) e)] 9)).cell? ⟨B,0,none⟩=some (.slice (some ⟨g,0,none⟩) l.length cap):=hzc _;refine az (λw'=>w'.cell? ⟨B,0,none⟩=some (.slice (some ⟨g,0,none⟩) l.length cap)) (by kernel_rfl) ?_;refine aU 0 157 (.pointer (some ⟨B,0,none⟩)) hS0 ?_;refine aU 1 158 (.pointer (some ⟨B,0,none⟩)) hS0 ?_;refine aU 2 159 (.pointer (some ⟨B,0,none⟩)) hS0 ?_;refine dM 3 160 (.slice (some ⟨g,0,none⟩) l.length cap) rfl (λw' hS=>by simp[execOp,Act.eval,go_sem,hS]) hS0 ?_;refine aU 4 161 (.int .i64 (m:Int)) hS0 ?_;refine aU 5 162 (.pointer (some ⟨B,0,none⟩)) hS0 ?_;refine aU 6 163 (.pointer (some ⟨B,0,none⟩)) hS0 ?_;refine aU 7 164 (.pointer (some ⟨B,0,none⟩)) hS0 ?_;refine dM 8 165 (.slice (some ⟨g,0,none⟩) l.length cap) rfl (λw' hS=>by simp[execOp,Act.eval,go_sem,hS]) hS0 ?_;refine aU 9 166 (.int .i64 (m:Int)) hS0 ?_;refine dM 10 167 (.pointer (some ⟨g,m*7,none⟩)) rfl (λw' _=>by simp[execOp,Act.eval,go_sem,hm']) hS0 ?_;refine aU 11 168 (.pointer (some ⟨g,m*7+5,none⟩)) hS0 ?_;refine aU 13 170 (.string t) hS0 ?_;refine aU 14 171 (.int .i64 (k:Int)) hS0 ?_;refine dM 15 172 (.int .i64 ((k:Int)+1)) rfl (λw' _=>by simp[execOp,Act.eval,go_sem,wk1]) hS0 ?_;refine aU 16 173 (.int .i64 (e:Int)) hS0 ?_;refine dM 17 174 (.string (t.extract (k+1) e)) rfl (λw' _=>by simp[execOp,Act.eval,go_sem,he1,hk0,hke,tk1]) hS0 ?_;obtain⟨g1,c1,w9,IB,o9,g9,Hl⟩:=dC (P:=prog) (wr.drew.alloc (.cells #[.string (t.extract (k+1) e)] 9)) B 220 220 9 i0 (.string ⟨#[]⟩) 1 16 underlying220 hi hz0 hz1 hz2 rfl (by decide) x.lv x.n.leave.length (kF x.n.leave) (by exact(HH.out.1.2.1.rD x hxm).alloc _) ⟨wr.heap.size,0,none⟩ 1 1 [.string (t.extract (k+1) e)] rfl (by exact gB _ _ _) (by intro u hu;simp at hu;subst hu;rfl) (by decide) (by unfold maxLen;omega) (by omega) (by simp;omega);have K9:Kp (λi=>x.lv.ownBlock=some i) wr w9:=Kp.grown (by exact((Kp.refl _ _).alloc (.cells #[.string (t.extract (k+1) e)] 9)).drew) g9 (λi hi _=>hi);obtain⟨y1,y2,y3⟩:=HH.out.1.behind K9 (HH.out.1.2.1.rD x hxm) (by decide) (by decide) hx;have y6:w9.cell? ⟨g,m*7+5,none⟩=some x.lv:=y2 5 (by omega);have yf:=y3 (m*7+5);have H9:=hid (ae o9 (ae g9 (ae Hl K9)));clear o9 g9 Hl K9 y2 y3;refine BC 12 18 169 175 x.lv (.slice (some ⟨wr.heap.size,0,none⟩) 1 1) (wr.drew.alloc (.cells #[.string (t.extract (k+1) e)] 9)) (by decide) (by kernel_rfl) (by kernel_rfl) (by kernel_rfl) rfl rfl rfl rfl rfl rfl (by simp[execOp,Act.eval,go_sem,z6]) (by simp[execOp,Act.eval,Act.put,go_sem]) (by simp[execOp,Act.eval,go_sem]) (by simp[execOp,Act.eval,Act.put,go_sem,z6a]) hS0 hS1 ?_;simp only[Act.put,pA,pB,pC];refine jD 19 ?_;refine BB (some 176) rfl (.slice (some ⟨g1,0,none⟩) (x.n.leave.length+1) c1) w9 (by simp[execOp,resolve,invoke,builtin,Act.eval,IB]) ?_;simp only[Act.put,pA,pB,pC];refine⟨y1,?_⟩;refine dM 20 177 (.pointer (some ⟨g,m*7,none⟩)) rfl (λw' _=>by simp[execOp,Act.eval,go_sem,hm']) y1 ?_;refine aU 21 178 (.pointer (some ⟨g,m*7+5,none⟩)) y1 ?_;refine jD 22 ?_;unfold Oper.wp;simp[execOp,Act.eval,go_sem,y6,yf];refine⟨y1,wpAnyH_done (by kernel_rfl) (NoPanic.normal ?_) _⟩;obtain⟨o9,g9,Hl,K9⟩:=H9.out;have hFa:=HH.out.1.ai ((Kp.refl (λ_=>False) wr).alloc (.cells #[.string (t.extract (k+1) e)] 9)).drew
    have DG:=iG.Ci hFa hx (t.extract (k+1) e) o9 (by exact g9) (by exact Hl);have KZ:Kp (λi=>B<=i) w1 (w9.setCell ⟨g,m*7+5,none⟩ (.slice (some ⟨g1,0,none⟩) (x.n.leave.length+1) c1)):=((HH.out.2.2.trans' K9 (λi _ hi=>(((HH.out.1.2.1.rD x hxm).lt i hi).1))).setCell (p:=⟨g,m*7+5,none⟩) (λ_=>hBg) _)
    generalize w9.setCell ⟨g,m*7+5,none⟩ (.slice (some ⟨g1,0,none⟩) (x.n.leave.length+1) c1)=wz at*;have HZ:=hid (ae DG KZ);clear hS0 hS1 y1 y6 yf IB o9 g9 Hl K9 hFa DG KZ H9 zc hzc z6 z6a;go_wp2
    go_roundw
    case rel=>
     obtain⟨hF,hbd,KW⟩:=HH.out;obtain⟨DG,KZ⟩:=HZ.out;have hb:=hbd.2 x hxm;refine hid ⟨e+1,(m:Int),_,_,rfl,by go_num,DG,?_,hbd.set (by omega) ⟨by simp only;omega,by simp;omega,by simp only;omega⟩,KZ,by omega⟩;rw[Hf (f:=λn=>if((36:Int)==94)=true then {n with enter:=n.enter++[t.extract (k+1) e]}else {n with leave:=n.leave++[t.extract (k+1) e]}) hx rfl];exact HN'.out
    case measure=>simp[intOf];omega
   |false=>?_
   have hN':=hN.other hlt (by rw[hpk.out];exact qo) (by rw[hpk.out];exact qc) (by rw[hpk.out];exact U9) (by rw[hpk.out];exact qb)
   have qb':(c==94)=false/\(c==36)=false:=by simpa using qb
   obtain⟨b94,b36⟩:=qb';have HH:=hid (ae hF (ae hN' (ae hbd KW)));clear hF hN hN' hbd KW qo qc qb;go_wp2
   go_roundw
   case rel=>
    obtain⟨hF,hN',hbd,KW⟩:=HH.out;exact hid ⟨k+1,up,l,_,rfl,by go_num,hF,hN',hbd.mono (by omega),KW,by omega⟩
   case measure=>simp[intOf];omega
  have hge:¬(k:Int)<(t.size:Int):=by omega
  have hE:=hN.end_ (by omega);have HH:=hid (ae hF (ae hE (ae hbd KW)));clear hF hN hbd KW hE;go_wp2;go_ret;obtain⟨hF,hE,hbd,KW⟩:=HH.out;exact⟨rfl,⟨l,v,hF,hE.symm,hbd.mono (by omega)⟩,K0.trans' KW (λi hi x=>by omega)⟩
end
theorem aga{l:List NV}{r:Rs}(h:NR (Ch.mk l) r)(hb:tC l 300)(ht:TB (Ch.mk l)):abt l:=by
 have at_:∀(k:Nat) (x:NV),l[k]? =some x->(Ch.mk l)[k]? =some x.n:=λk x hx=>by unfold Ch.mk;rw[List.getElem?_map,hx];rfl
 refine⟨hb.1,λx hx=>?_,λk x hx hk=>?_,λx hx=>⟨(hb.2 x hx).2.2,λrt hr=>?_⟩⟩
 ·obtain⟨k,hk⟩:=List.getElem?_of_mem hx
  have:=aal (h.wf k _ (at_ k x hk)).2.2.1;omega
 ·have hw:=h.wf k _ (at_ k x hx)
  have:=hw.2.2.2.1 hk;have hlt:=(List.getElem?_eq_some_iff.1 hx).1;exact⟨x.n.parent.toNat,by omega,by omega⟩
 obtain⟨k,hk⟩:=List.getElem?_of_mem hx;have hf:=h.bG k _ (at_ k x hk)
 have hT:∃y,vu rt y:=by
  generalize List.filter (oV k) r.bG=m at hf;generalize x.n.trans=q at hf hr
  induction hf using su.ind with
  |nil=>simp at hr
  |cons hab _ ih=>?_
  rcases List.mem_cons.1 hr with rfl|hr
  ·exact⟨_,hab⟩
  exact ih hr
 obtain⟨y,hy⟩:=hT;have:=hy.ends.1;have:=hy.pos;have:=ht x.n (List.mem_of_getElem? (at_ k x hk)) rt hr;omega
theorem iG.ajU{w:World}{B B' cb:Nat}{l:List NV}{v:Value}(h:iG w B cb l v)(hb:B'<=B):iG w B' cb l v:=
 ⟨h.1,⟨cO h.2.1.row hb,λx hx=>cO (h.2.1.rR x hx) hb,λx hx=>cO (h.2.1.rD x hx) hb,λx hx=>cO (h.2.1.iX x hx) hb,h.2.1.aE,h.2.1.aL,h.2.1.aX,h.2.1.aT⟩,Nat.le_trans hb h.2.2⟩
def RdR(w':World)(B:Nat)(t:ByteArray)(p:Value):Prop:=∃cb l v,p= .pointer (some ⟨cb,0,none⟩)/\iG w' B cb l v/\NR (Ch.mk l) (Ch.chart t).2/\tC l 300/\TB (Ch.mk l)
def RdQ(w w':World)(t:ByteArray)(p:Value):Prop:=((Ch.read t).1≠0->p= .pointer none)/\((Ch.read t).1=0->RdR w' w.heap.size t p)/\Kp (λ_=>False) w w'
section
variable (w:World)
theorem nh(t:ByteArray):
 Calls prog 142 #[.string t] w λx w'=>∃p,x= .returned (.tuple #[p,.int .i64 (Ch.read t).1,.int .i64 (Ch.read t).2.1])/\RdQ w w' t p:=by
 by_cases Wh:240<t.size
 ·have agb:(240:Int)<(t.size:Int):=by omega
  have hR:=hid (show Ch.read t=(1,0,⟨[],[],[]⟩)by unfold Ch.read;rw[if_pos Wh])
  go_enter func142,ntmps142
  go_wp2;go_ret3;refine⟨.pointer none,by rw[hR.out];rfl,λ_=>rfl,λh=>absurd h (by rw[hR.out];decide),Kp.refl _ _⟩
 have agb:¬(240:Int)<(t.size:Int):=by omega
 have ht:t.size<=240:=by omega
 have E1:=hid (Om w t ht);have hpl:=Tn t
 cases q:(Ch.chart t).1 with
 |false=>
  rw[q]at hpl;simp only[Bool.false_eq_true,if_false]at hpl;rw[hpl]at E1
  have h0:(0:Int)<=((Ch.chart t).2.pos:Int):=by omega
  have hR:=hid (show Ch.read t=(2,((Ch.chart t).2.pos:Int),⟨[],[],[]⟩)by unfold Ch.read;rw[if_neg Wh,q];rfl);clear hpl;generalize (Ch.chart t).2.pos=po at*
  go_enter func142,ntmps142
  go_wp2_with fail
  refine bH E1 ?_;rintro y w1 ⟨rfl,K1⟩;go_wp2;go_ret3;refine⟨.pointer none,by rw[hR.out];rfl,λ_=>rfl,λh=>absurd h (by rw[hR.out];simp only;decide),K1⟩
 |true=>?_
 rw[q]at hpl;simp only[if_true]at hpl;rw[hpl]at E1;obtain⟨L,hrun,hNR⟩:=yk q;have hfe:=AZ hNR;have hTB:=hrun.bd ht (by intro n hn;simp at hn);have HL:=hid (ae hrun (ae hNR hTB));clear hpl hrun hNR hTB
 go_enter func142,ntmps142
 go_wp2_with fail
 refine bH E1 ?_;rintro y w1 ⟨rfl,K1⟩;have E2:=hid (OH w1 t L ht HL.out.1)
 go_wp2_with fail
 refine bH E2 ?_;rintro y w2 ⟨rfl,⟨l,v,hF,hmk,hbd⟩,K2⟩;have HX:=hid (show NR (Ch.mk l) (Ch.chart t).2/\TB (Ch.mk l)by rw[hmk];exact HL.out.2);have E3:=hid (Ov w2 w1.heap.size w1.heap.size l v hF (aga HX.out.1 hbd HX.out.2));rw[<-hmk]at hfe
 have hE:fE (Ch.mk l)=(judge (Ch.chart t).2.ag (Ch.chart t).2.uses).1:=by unfold fE;rw[hfe]
 have hP:fP (Ch.mk l)=(judge (Ch.chart t).2.ag (Ch.chart t).2.uses).2:=by unfold fP;rw[hfe]
 rw[hE,hP]at E3;have hsz:=K1.size;have HF:=hid (ae hF (ae hbd (K1.trans K2)));clear E1 E2 hF hmk hbd K2 hE hP hfe HL
 go_wp2_with fail
 refine bH E3 ?_;rintro y w3 ⟨rfl,K3⟩
 cases q2:(judge (Ch.chart t).2.ag (Ch.chart t).2.uses).1==0 with
 |false=>
  have q3:((judge (Ch.chart t).2.ag (Ch.chart t).2.uses).1 !=0)=true:=by simpa using q2
  have hR:=hid (show(Ch.read t).1=(judge (Ch.chart t).2.ag (Ch.chart t).2.uses).1/\(Ch.read t).2.1=(judge (Ch.chart t).2.ag (Ch.chart t).2.uses).2 by unfold Ch.read;rw[if_neg Wh,q,q2];exact⟨rfl,rfl⟩);generalize judge (Ch.chart t).2.ag (Ch.chart t).2.uses=jd at*;clear E3 K1;go_wp2;go_ret3;refine⟨.pointer none,by rw[hR.out.1,hR.out.2];rfl,λ_=>rfl,λh=>absurd h (by rw[hR.out.1];simpa using q2),HF.out.2.2.trans K3⟩
 |true=>?_
 have q3:((judge (Ch.chart t).2.ag (Ch.chart t).2.uses).1 !=0)=false:=by simpa using q2
 have hR:=hid (show(Ch.read t).1=0/\(Ch.read t).2.1=0 by unfold Ch.read;rw[if_neg Wh,q,q2];exact⟨rfl,rfl⟩);generalize judge (Ch.chart t).2.ag (Ch.chart t).2.uses=jd at*;clear E3 K1;go_wp2;go_ret3;obtain⟨hF,hbd,KK⟩:=HF.out;refine⟨.pointer (some ⟨w1.heap.size,0,none⟩),by rw[hR.out.1,hR.out.2];rfl,λh=>absurd hR.out.1 h,λ_=>⟨w1.heap.size,l,v,rfl,(hF.ai K3).ajU hsz,HX.out.1,hbd,HX.out.2⟩,KK.trans K3⟩
end
end Go.Proofs.YtnlbchmfcebeeaaGreat
