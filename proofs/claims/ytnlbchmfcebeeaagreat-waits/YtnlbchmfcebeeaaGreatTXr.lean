import Derived.Test.YtnlbchmfcebeeaaGreatTXpv1
set_option maxHeartbeats 12800000
set_option maxRecDepth 100000
namespace Go.Proofs.YtnlbchmfcebeeaaGreat
open Go.Proofs.Tryz Ch
open Go.RowKit
namespace Ch
theorem ado{t:ByteArray}{c:Int}{k:Nat}{acc:List Int}(hk:k+1<t.size):sW t c (t.size-k) k acc=sW t c (t.size-(k+2)) (k+2) (if af t k !=c then acc++[af t k,af t (k+1)]else acc):=by
 have key:∀(f k:Nat) (acc:List Int),t.size<=k+f->sW t c f k acc=sW t c (t.size-k) k acc:=by
  intro f
  induction f using Nat.strongRecOn with
  |ind f ih=>?_
  intro k acc hf
  match f,ih with
  |0,_=>rw[show t.size-k=0 by omega]
  |f+1,ih=>
   by_cases c1:k+1<t.size
   ·obtain⟨d,hd⟩:∃d,t.size-k=d+1:=⟨t.size-k-1,by omega⟩
    rw[hd];simp only[sW];rw[if_pos c1,if_pos c1];rw[ih f (by omega) (k+2) _ (by omega),ih f (by omega) (k+2) _ (by omega)]
    by_cases c2:d<=f
    ·by_cases c3:d<f+1
     ·rw[ih d (by omega) (k+2) _ (by omega),ih d (by omega) (k+2) _ (by omega)]
     omega
    omega
   rw[zU c1,zU c1]
 obtain⟨d,hd⟩:∃d,t.size-k=d+1:=⟨t.size-k-1,by omega⟩
 rw[hd];simp only[sW];rw[if_pos hk,key d (k+2) _ (by omega),key d (k+2) _ (by omega)]
 split<;>rfl
end Ch
section
variable (w:World)
theorem Kk(t:ByteArray)(b:Int)(ht:t.size<=1000):
 Calls prog 275 #[.string t,.int .u8 b] w λx w'=>x= .returned (.string (strOfNums (sW t b t.size 0 [])))/\w'=w:=by
 go_enter func275,ntmps275
 go_wp2_with fail
 go_loop [5,6] (λtv kv=>∃(k:Nat) (acc:List Int),tv= .string (strOfNums acc)/\kv= .int .i64 k/\k<=t.size+1/\acc.length<=k/\Hid (sW t b t.size 0 []=sW t b (t.size-k) k acc)) (λ_ kv=>t.size+1-(intOf kv).toNat)
 case atStart=>exact⟨0,[],rfl,rfl,Nat.zero_le _,Nat.le_refl _,hid rfl⟩
 case round=>
  obtain⟨k,acc,rfl,rfl,hk,ha,HE⟩:=hrel
  by_cases hlt:k+1<t.size
  ·have hlt':(k:Int)+1<(t.size:Int):=by omega
   have hk0:k<t.size:=by omega
   have hk0':(k:Int)<(t.size:Int):=by omega
   have hpk:af t k=((t[k]'hk0).toNat:Int):=by simp[af,hk0]
   have hgo:=ado (c:=b) (acc:=acc) hlt;rw[hpk]at hgo;have hx:=QM (t:=t) (k:=k) (by omega);have hsz:=strOfNums_size acc
   cases q:(((t[k]'hk0).toNat:Int)!=b)with
   |true=>
    rw[q]at hgo;simp only[if_true]at hgo;have HG:=hid (HE.out.trans hgo);have HX:=hid (show strOfNums acc++t.extract k (k+2)=strOfNums (acc++[((t[k]'hk0).toNat:Int),af t (k+1)])by rw[hx,<-jn,hpk]);clear hgo hx hpk HE;go_wp2
    go_round
    case rel=>exact⟨k+2,_,by first|rw[HX.out]|rfl,by go_num,by omega,by simp;omega,hid HG.out⟩
    case measure=>simp[intOf];omega
   |false=>?_
   rw[q]at hgo;simp only[Bool.false_eq_true,if_false]at hgo;have HG:=hid (HE.out.trans hgo);clear hgo hx hpk HE;go_wp2
   go_round
   case rel=>exact⟨k+2,acc,rfl,by go_num,by omega,by omega,hid HG.out⟩
   case measure=>simp[intOf];omega
  have hge:¬(k:Int)+1<(t.size:Int):=by omega
  have HR:=hid (HE.out.trans (zU hlt));go_wp2;go_ret;rw[HR.out];exact⟨rfl,rfl⟩
end
def aaw(w w':World)(xb cb g n:Nat)(pv:Value)(m:Ma)(a:Ac)(r:List Int)(rest:ByteArray):Prop:=
 ((bC m a).1=true->dW rest=r)/\fy w' xb cb g n pv (bC m a).2/\Kp (λk=>k=xb) w w'
section
variable (w:World) (xb cb g n:Nat) (pv:Value) (m:Ma)
theorem Xo(s:ByteArray)(a:Ac)(r:List Int)(h:fy w xb cb g n pv m)(hs:dW s=vq a++r)(hv:uB a)(hok:m.s.Ok)(h16:m.s.tm.size<=16)(hq:m.Sz 1000000000)(hss:s.size<=1000):
 Calls prog 267 #[.pointer (some ⟨xb,0,none⟩),.string s] w λx w'=>∃rest,x= .returned (.tuple #[.string rest,.bool (bC m a).1])/\aaw w w' xb cb g n pv m a r rest:=by
 obtain⟨p0,p1,hsz,hd,hnd⟩:=Xl hs
 have hx0:0<s.size:=by omega
 have hx1:1<s.size:=by omega
 have hb0:((s[0]'hx0).toNat:Int)=a.sign:=by rw[<-p0];simp[af,hx0]
 have hb1:((s[1]'hx1).toNat:Int)=a.letter:=by rw[<-p1];simp[af,hx1]
 have c3:w.cell? ⟨xb,3,none⟩=some (.string m.s.tm):=h.cell 3;have c4:w.cell? ⟨xb,4,none⟩=some (.int .i64 m.s.x):=h.cell 4;have c5:w.cell? ⟨xb,5,none⟩=some (.int .i64 m.s.y):=h.cell 5;have c6:w.cell? ⟨xb,6,none⟩=some (.int .i64 m.s.z):=h.cell 6;have c7:w.cell? ⟨xb,7,none⟩=some (.string (strOfNums m.q)):=h.cell 7;have c8:w.cell? ⟨xb,8,none⟩=some (.string (strOfNums m.out)):=h.cell 8;have f3:=h.free 3;have f4:=h.free 4;have f5:=h.free 5;have f6:=h.free 6;have f7:=h.free 7;have f8:=h.free 8
 have z7:(strOfNums m.q).size<=1000000000:=by rw[strOfNums_size];exact hq.1
 have z8:(strOfNums m.out).size<=1000000000:=by rw[strOfNums_size];exact hq.2
 have h1:=aav (t:=s) (k:=1) (by omega);rw[p1]at h1;have H:=hid h;clear h p0 p1
 have hsg:a.sign=33\/a.sign=35\/a.sign=126\/a.sign=64\/a.sign=43\/a.sign=45\/a.sign=61:=by
  rcases hv with⟨h,_⟩|⟨h,_⟩|⟨h,_⟩<;>omega
 rcases hsg with e|e|e|e|e|e|e
 ·
  rw[e]at hb0 hnd
  have t0:(((s[0]'hx0).toNat:Int)==33)=true:=by rw[hb0];rfl
  have hA:bC m a=(true,{m with q:=m.q++[a.letter]}):=by unfold bC;rw[e];rfl
  have HX:=hid (show strOfNums m.q++s.extract 1 2=strOfNums (m.q++[a.letter])by rw[h1,<-jn]);have HR:=hid (hnd rfl);have HA:=hid hA;clear hb0 hb1 hd hnd h1 hA hs
  go_enter func267,ntmps267
  go_wp2
  go_region
  go_wp2;go_ret2;rw[HA.out,HX.out];exact⟨_,rfl,λ_=>HR.out,by rw[HA.out];exact(H.out.MR _).keep (S:=λ_=>False) (Kp.refl _ _).drew (λx=>x),((Kp.refl _ _).setCell (by intro _;rfl) _).drew⟩
 ·
  rw[e]at hb0 hnd
  have t0:(((s[0]'hx0).toNat:Int)==33)=false:=by rw[hb0];rfl
  have t1:(((s[0]'hx0).toNat:Int)==35)=true:=by rw[hb0];rfl
  have hA:bC m a=(true,{m with out:=m.out++[a.letter]}):=by unfold bC;rw[e];rfl
  have HX:=hid (show strOfNums m.out++s.extract 1 2=strOfNums (m.out++[a.letter])by rw[h1,<-jn]);have HR:=hid (hnd rfl);have HA:=hid hA;clear hb0 hb1 hd hnd h1 hA hs
  go_enter func267,ntmps267
  go_wp2
  go_region
  go_wp2;go_ret2;rw[HA.out,HX.out];exact⟨_,rfl,λ_=>HR.out,by rw[HA.out];exact(H.out.zA _).keep (S:=λ_=>False) (Kp.refl _ _).drew (λx=>x),((Kp.refl _ _).setCell (by intro _;rfl) _).drew⟩
 ·
  rw[e]at hb0 hnd
  have t0:(((s[0]'hx0).toNat:Int)==33)=false:=by rw[hb0];rfl
  have t1:(((s[0]'hx0).toNat:Int)==35)=false:=by rw[hb0];rfl
  have t2:(((s[0]'hx0).toNat:Int)==126)=true:=by rw[hb0];rfl
  have hA:bC m a=(true,{m with s:=nw m.s a.letter}):=by unfold bC;rw[e];rfl
  have HR:=hid (hnd rfl);have HA:=hid hA;have E:=hid (λw'=>Kk w' m.s.tm a.letter (by omega));rw[<-hb1]at E;have HB:=hid hb1;clear hb0 hb1 hd hnd h1 hA hs
  go_enter func267,ntmps267
  go_wp2_with fail
  refine Calls.mono (Hid.out E w) ?_;rintro y w1 ⟨rfl,e1⟩;rw[e1];go_wp2;go_ret2;rw[HA.out];refine⟨_,rfl,λ_=>HR.out,?_,(Kp.refl _ _).setCell (by intro _;rfl) _⟩;rw[HA.out,HB.out];exact H.out.NH _
 ·
  rw[e]at hb0 hd
  have t0:(((s[0]'hx0).toNat:Int)==33)=false:=by rw[hb0];rfl
  have t1:(((s[0]'hx0).toNat:Int)==35)=false:=by rw[hb0];rfl
  have t2:(((s[0]'hx0).toNat:Int)==126)=false:=by rw[hb0];rfl
  have t3:(((s[0]'hx0).toNat:Int)==64)=true:=by rw[hb0];rfl
  obtain⟨hd2,hs3,hr⟩:=hd rfl
  by_cases c:m.s.tm.size=16
  ·have c':((m.s.tm.size:Int)==16)=true:=by rw[c];rfl
   have hA:bC m a=(false,m):=by unfold bC Ch.send;rw[e,if_neg (by decide),if_pos (by decide),if_pos (by omega)]
   have HA:=hid hA;clear hb0 hb1 hnd h1 hA hs hr hd2 hd
   go_enter func267,ntmps267
   go_wp2;go_ret2;rw[HA.out];exact⟨_,rfl,(λh=>by rw[HA.out]at h;cases h),by rw[HA.out];exact H.out,Kp.refl _ _⟩
  have c':((m.s.tm.size:Int)==16)=false:=by simp;omega
  have hA:bC m a=(true,{m with s:={m.s with tm:=m.s.tm++strOfNums [a.letter,48+a.digit]}}):=by unfold bC Ch.send;rw[e,if_neg (by decide),if_pos (by decide),if_neg (by omega)]
  have h2:=QM (t:=s) (k:=1) (by omega);have HX:=hid (show m.s.tm++s.extract 1 3=m.s.tm++strOfNums [a.letter,48+a.digit]by rw[show(3:Nat)=1+2 by rfl,h2,hd2];rw[show af s 1=a.letter by rw[<-hb1];simp[af,hx1]]);have HR:=hid hr;have HA:=hid hA;clear hb0 hb1 hnd h1 hA hs hr hd2 h2 hd
  go_enter func267,ntmps267
  go_wp2
  go_region
  go_wp2;go_ret2;rw[HA.out,HX.out];exact⟨_,rfl,λ_=>HR.out,by rw[HA.out];exact(H.out.NH _).keep (S:=λ_=>False) (Kp.refl _ _).drew (λx=>x),((Kp.refl _ _).setCell (by intro _;rfl) _).drew⟩
 ·rw[e]at hb0 hd
  have t0:(((s[0]'hx0).toNat:Int)==33)=false:=by rw[hb0];rfl
  have t1:(((s[0]'hx0).toNat:Int)==35)=false:=by rw[hb0];rfl
  have t2:(((s[0]'hx0).toNat:Int)==126)=false:=by rw[hb0];rfl
  have t3:(((s[0]'hx0).toNat:Int)==64)=false:=by rw[hb0];rfl
  have t4:(((s[0]'hx0).toNat:Int)==43)=true:=by rw[hb0];rfl
  have t5:(((s[0]'hx0).toNat:Int)==45)=false:=by rw[hb0];rfl
  obtain⟨hd2,hs3,hr⟩:=hd rfl
  have hx2:2<s.size:=by omega
  have hb2:((s[2]'hx2).toNat:Int)=48+a.digit:=by rw[<-hd2];simp[af,hx2]
  have hlt:a.letter=120\/a.letter=121\/a.letter=122:=by
   rcases hv with⟨h,_⟩|⟨h,_⟩|⟨_,h,_⟩
   ·omega
   ·omega
   exact uC h
  have hdg:=hv.byte;obtain⟨⟨_,_⟩,⟨hox,hoy,hoz⟩,_⟩:=hok
  have key:∀(j:Nat) (ov:Int) (upd:Int->Ma),j<3->a.letter=120+j->(-99<=ov/\ov<=99)->w.cell? ⟨xb,4+j,none⟩=some (.int .i64 ov)->w.frozen? ⟨xb,4+j,none⟩=false->(∀u,fy (w.setCell ⟨xb,4+j,none⟩ (.int .i64 u)) xb cb g n pv (upd u))->bC m a=(jU (ov+a.digit),if jU (ov+a.digit)then upd (ov+a.digit)else m)->
   Calls prog 267 #[.pointer (some ⟨xb,0,none⟩),.string s] w λx w'=>∃rest,x= .returned (.tuple #[.string rest,.bool (bC m a).1])/\aaw w w' xb cb g n pv m a r rest:=by
   intro j ov upd hj el hov cV fV hset hA;rw[el]at hb1
   have hval:ov+(((s[2]'hx2).toNat:Int)-48)=ov+a.digit:=by rw[hb2];omega
   have E:=hid (λw'=>lz w' (ov+(((s[2]'hx2).toNat:Int)-48)));have HV:=hid (ae hval hA);have HR:=hid hr;have HS:=hid hset
   have lo:0<=((s[2]'hx2).toNat:Int)-48:=by omega
   have hi:((s[2]'hx2).toNat:Int)-48<=9:=by omega
   have hj3:(j:Int)<3:=by omega
   have hjn:((j:Int)).toNat=j:=by omega
   have hbj:((s[1]'hx1).toNat:Int)-120=j:=by omega
   have qv:jU (ov+(((s[2]'hx2).toNat:Int)-48))=jU (ov+a.digit):=by rw[hval]
   clear hb0 hb1 hb2 hnd h1 hA hs hr hd2 hd hval hset c4 c5 c6 f4 f5 f6
   go_enter func267,ntmps267
   go_wp2_with fail
   refine Calls.mono (Hid.out E w) ?_;rintro y w1 ⟨rfl,e1⟩;rw[e1];clear E e1 w1;generalize jU (ov+(((s[2]'hx2).toNat:Int)-48))=bb at*
   cases bb
   ·have HA:=hid (show bC m a=(false,m)by rw[HV.out.2,<-qv];rfl)
    clear qv HV;go_wp2;go_ret2;rw[HA.out];exact⟨_,rfl,(λh=>by rw[HA.out]at h;cases h),by rw[HA.out];exact H.out,Kp.refl _ _⟩
   have HA:=hid (show bC m a=(true,upd (ov+(((s[2]'hx2).toNat:Int)-48)))by rw[HV.out.2,<-qv,HV.out.1];rfl);clear qv HV;go_wp2;go_ret2;rw[HA.out];exact⟨_,rfl,λ_=>HR.out,by rw[HA.out];exact HS.out _,(Kp.refl _ _).setCell (by intro _;rfl) _⟩
  rcases hlt with el|el|el
  ·exact key 0 m.s.x (λu=>{m with s:={m.s with x:=u}}) (by omega) (by omega) hox c4 f4 (λu=>H.out.Vu u) (by
    unfold bC dJ k8 fX Ch.var;rw[e,el];simp only[show((43:Int)==33)=false from rfl,show((43:Int)==64)=false from rfl,show((43:Int)==126)=false from rfl,show((43:Int)==35)=false from rfl,show((43:Int)==43)=true from rfl,show((43:Int)==45)=false from rfl,show((120:Int)==120)=true from rfl,show((120:Int)==121)=false from rfl,Bool.false_eq_true,if_false,if_true]
    cases jU (m.s.x+a.digit)<;>rfl)
  ·exact key 1 m.s.y (λu=>{m with s:={m.s with y:=u}}) (by omega) (by omega) hoy c5 f5 (λu=>H.out.Vv u) (by
    unfold bC dJ k8 fX Ch.var;rw[e,el];simp only[show((43:Int)==33)=false from rfl,show((43:Int)==64)=false from rfl,show((43:Int)==126)=false from rfl,show((43:Int)==35)=false from rfl,show((43:Int)==43)=true from rfl,show((43:Int)==45)=false from rfl,show((121:Int)==120)=false from rfl,show((121:Int)==121)=true from rfl,Bool.false_eq_true,if_false,if_true]
    cases jU (m.s.y+a.digit)<;>rfl)
  exact key 2 m.s.z (λu=>{m with s:={m.s with z:=u}}) (by omega) (by omega) hoz c6 f6 (λu=>H.out.Vw u) (by
   unfold bC dJ k8 fX Ch.var;rw[e,el];simp only[show((43:Int)==33)=false from rfl,show((43:Int)==64)=false from rfl,show((43:Int)==126)=false from rfl,show((43:Int)==35)=false from rfl,show((43:Int)==43)=true from rfl,show((43:Int)==45)=false from rfl,show((122:Int)==120)=false from rfl,show((122:Int)==121)=false from rfl,Bool.false_eq_true,if_false,if_true]
   cases jU (m.s.z+a.digit)<;>rfl)
 ·rw[e]at hb0 hd
  have t0:(((s[0]'hx0).toNat:Int)==33)=false:=by rw[hb0];rfl
  have t1:(((s[0]'hx0).toNat:Int)==35)=false:=by rw[hb0];rfl
  have t2:(((s[0]'hx0).toNat:Int)==126)=false:=by rw[hb0];rfl
  have t3:(((s[0]'hx0).toNat:Int)==64)=false:=by rw[hb0];rfl
  have t4:(((s[0]'hx0).toNat:Int)==43)=false:=by rw[hb0];rfl
  have t5:(((s[0]'hx0).toNat:Int)==45)=true:=by rw[hb0];rfl
  obtain⟨hd2,hs3,hr⟩:=hd rfl
  have hx2:2<s.size:=by omega
  have hb2:((s[2]'hx2).toNat:Int)=48+a.digit:=by rw[<-hd2];simp[af,hx2]
  have hlt:a.letter=120\/a.letter=121\/a.letter=122:=by
   rcases hv with⟨h,_⟩|⟨h,_⟩|⟨_,h,_⟩
   ·omega
   ·omega
   exact uC h
  have hdg:=hv.byte;obtain⟨⟨_,_⟩,⟨hox,hoy,hoz⟩,_⟩:=hok
  have key:∀(j:Nat) (ov:Int) (upd:Int->Ma),j<3->a.letter=120+j->(-99<=ov/\ov<=99)->w.cell? ⟨xb,4+j,none⟩=some (.int .i64 ov)->w.frozen? ⟨xb,4+j,none⟩=false->(∀u,fy (w.setCell ⟨xb,4+j,none⟩ (.int .i64 u)) xb cb g n pv (upd u))->bC m a=(jU (ov-a.digit),if jU (ov-a.digit)then upd (ov-a.digit)else m)->
   Calls prog 267 #[.pointer (some ⟨xb,0,none⟩),.string s] w λx w'=>∃rest,x= .returned (.tuple #[.string rest,.bool (bC m a).1])/\aaw w w' xb cb g n pv m a r rest:=by
   intro j ov upd hj el hov cV fV hset hA;rw[el]at hb1
   have hval:ov-(((s[2]'hx2).toNat:Int)-48)=ov-a.digit:=by rw[hb2];omega
   have E:=hid (λw'=>lz w' (ov-(((s[2]'hx2).toNat:Int)-48)));have HV:=hid (ae hval hA);have HR:=hid hr;have HS:=hid hset
   have lo:0<=((s[2]'hx2).toNat:Int)-48:=by omega
   have hi:((s[2]'hx2).toNat:Int)-48<=9:=by omega
   have hj3:(j:Int)<3:=by omega
   have hjn:((j:Int)).toNat=j:=by omega
   have hbj:((s[1]'hx1).toNat:Int)-120=j:=by omega
   have qv:jU (ov-(((s[2]'hx2).toNat:Int)-48))=jU (ov-a.digit):=by rw[hval]
   clear hb0 hb1 hb2 hnd h1 hA hs hr hd2 hd hval hset c4 c5 c6 f4 f5 f6
   go_enter func267,ntmps267
   go_wp2_with fail
   refine Calls.mono (Hid.out E w) ?_;rintro y w1 ⟨rfl,e1⟩;rw[e1];clear E e1 w1;generalize jU (ov-(((s[2]'hx2).toNat:Int)-48))=bb at*
   cases bb
   ·have HA:=hid (show bC m a=(false,m)by rw[HV.out.2,<-qv];rfl)
    clear qv HV;go_wp2;go_ret2;rw[HA.out];exact⟨_,rfl,(λh=>by rw[HA.out]at h;cases h),by rw[HA.out];exact H.out,Kp.refl _ _⟩
   have HA:=hid (show bC m a=(true,upd (ov-(((s[2]'hx2).toNat:Int)-48)))by rw[HV.out.2,<-qv,HV.out.1];rfl);clear qv HV;go_wp2;go_ret2;rw[HA.out];exact⟨_,rfl,λ_=>HR.out,by rw[HA.out];exact HS.out _,(Kp.refl _ _).setCell (by intro _;rfl) _⟩
  rcases hlt with el|el|el
  ·exact key 0 m.s.x (λu=>{m with s:={m.s with x:=u}}) (by omega) (by omega) hox c4 f4 (λu=>H.out.Vu u) (by
    unfold bC dJ k8 fX Ch.var;rw[e,el];simp only[show((45:Int)==33)=false from rfl,show((45:Int)==64)=false from rfl,show((45:Int)==126)=false from rfl,show((45:Int)==35)=false from rfl,show((45:Int)==43)=false from rfl,show((45:Int)==45)=true from rfl,show((120:Int)==120)=true from rfl,show((120:Int)==121)=false from rfl,Bool.false_eq_true,if_false,if_true]
    cases jU (m.s.x-a.digit)<;>rfl)
  ·exact key 1 m.s.y (λu=>{m with s:={m.s with y:=u}}) (by omega) (by omega) hoy c5 f5 (λu=>H.out.Vv u) (by
    unfold bC dJ k8 fX Ch.var;rw[e,el];simp only[show((45:Int)==33)=false from rfl,show((45:Int)==64)=false from rfl,show((45:Int)==126)=false from rfl,show((45:Int)==35)=false from rfl,show((45:Int)==43)=false from rfl,show((45:Int)==45)=true from rfl,show((121:Int)==120)=false from rfl,show((121:Int)==121)=true from rfl,Bool.false_eq_true,if_false,if_true]
    cases jU (m.s.y-a.digit)<;>rfl)
  exact key 2 m.s.z (λu=>{m with s:={m.s with z:=u}}) (by omega) (by omega) hoz c6 f6 (λu=>H.out.Vw u) (by
   unfold bC dJ k8 fX Ch.var;rw[e,el];simp only[show((45:Int)==33)=false from rfl,show((45:Int)==64)=false from rfl,show((45:Int)==126)=false from rfl,show((45:Int)==35)=false from rfl,show((45:Int)==43)=false from rfl,show((45:Int)==45)=true from rfl,show((122:Int)==120)=false from rfl,show((122:Int)==121)=false from rfl,Bool.false_eq_true,if_false,if_true]
   cases jU (m.s.z-a.digit)<;>rfl)
 rw[e]at hb0 hd
 have t0:(((s[0]'hx0).toNat:Int)==33)=false:=by rw[hb0];rfl
 have t1:(((s[0]'hx0).toNat:Int)==35)=false:=by rw[hb0];rfl
 have t2:(((s[0]'hx0).toNat:Int)==126)=false:=by rw[hb0];rfl
 have t3:(((s[0]'hx0).toNat:Int)==64)=false:=by rw[hb0];rfl
 have t4:(((s[0]'hx0).toNat:Int)==43)=false:=by rw[hb0];rfl
 have t5:(((s[0]'hx0).toNat:Int)==45)=false:=by rw[hb0];rfl
 obtain⟨hd2,hs3,hr⟩:=hd rfl
 have hx2:2<s.size:=by omega
 have hb2:((s[2]'hx2).toNat:Int)=48+a.digit:=by rw[<-hd2];simp[af,hx2]
 have hlt:a.letter=120\/a.letter=121\/a.letter=122:=by
  rcases hv with⟨h,_⟩|⟨h,_⟩|⟨_,h,_⟩
  ·omega
  ·omega
  exact uC h
 have hdg:=hv.byte;obtain⟨⟨_,_⟩,⟨hox,hoy,hoz⟩,_⟩:=hok
 have key:∀(j:Nat) (ov:Int) (upd:Int->Ma),j<3->a.letter=120+j->(-99<=ov/\ov<=99)->w.cell? ⟨xb,4+j,none⟩=some (.int .i64 ov)->w.frozen? ⟨xb,4+j,none⟩=false->(∀u,fy (w.setCell ⟨xb,4+j,none⟩ (.int .i64 u)) xb cb g n pv (upd u))->bC m a=(jU (a.digit),if jU (a.digit)then upd (a.digit)else m)->
  Calls prog 267 #[.pointer (some ⟨xb,0,none⟩),.string s] w λx w'=>∃rest,x= .returned (.tuple #[.string rest,.bool (bC m a).1])/\aaw w w' xb cb g n pv m a r rest:=by
  intro j ov upd hj el hov cV fV hset hA;rw[el]at hb1
  have hval:(((s[2]'hx2).toNat:Int)-48)=a.digit:=by rw[hb2];omega
  have E:=hid (λw'=>lz w' ((((s[2]'hx2).toNat:Int)-48)));have HV:=hid (ae hval hA);have HR:=hid hr;have HS:=hid hset
  have lo:0<=((s[2]'hx2).toNat:Int)-48:=by omega
  have hi:((s[2]'hx2).toNat:Int)-48<=9:=by omega
  have hj3:(j:Int)<3:=by omega
  have hjn:((j:Int)).toNat=j:=by omega
  have hbj:((s[1]'hx1).toNat:Int)-120=j:=by omega
  have qv:jU ((((s[2]'hx2).toNat:Int)-48))=jU (a.digit):=by rw[hval]
  clear hb0 hb1 hb2 hnd h1 hA hs hr hd2 hd hval hset c4 c5 c6 f4 f5 f6
  go_enter func267,ntmps267
  go_wp2_with fail
  refine Calls.mono (Hid.out E w) ?_;rintro y w1 ⟨rfl,e1⟩;rw[e1];clear E e1 w1;generalize jU ((((s[2]'hx2).toNat:Int)-48))=bb at*
  cases bb
  ·have HA:=hid (show bC m a=(false,m)by rw[HV.out.2,<-qv];rfl)
   clear qv HV;go_wp2;go_ret2;rw[HA.out];exact⟨_,rfl,(λh=>by rw[HA.out]at h;cases h),by rw[HA.out];exact H.out,Kp.refl _ _⟩
  have HA:=hid (show bC m a=(true,upd ((((s[2]'hx2).toNat:Int)-48)))by rw[HV.out.2,<-qv,HV.out.1];rfl);clear qv HV;go_wp2;go_ret2;rw[HA.out];exact⟨_,rfl,λ_=>HR.out,by rw[HA.out];exact HS.out _,(Kp.refl _ _).setCell (by intro _;rfl) _⟩
 rcases hlt with el|el|el
 ·exact key 0 m.s.x (λu=>{m with s:={m.s with x:=u}}) (by omega) (by omega) hox c4 f4 (λu=>H.out.Vu u) (by
   unfold bC dJ k8 fX Ch.var;rw[e,el];simp only[show((61:Int)==33)=false from rfl,show((61:Int)==64)=false from rfl,show((61:Int)==126)=false from rfl,show((61:Int)==35)=false from rfl,show((61:Int)==43)=false from rfl,show((61:Int)==45)=false from rfl,show((120:Int)==120)=true from rfl,show((120:Int)==121)=false from rfl,Bool.false_eq_true,if_false,if_true]
   cases jU (a.digit)<;>rfl)
 ·exact key 1 m.s.y (λu=>{m with s:={m.s with y:=u}}) (by omega) (by omega) hoy c5 f5 (λu=>H.out.Vv u) (by
   unfold bC dJ k8 fX Ch.var;rw[e,el];simp only[show((61:Int)==33)=false from rfl,show((61:Int)==64)=false from rfl,show((61:Int)==126)=false from rfl,show((61:Int)==35)=false from rfl,show((61:Int)==43)=false from rfl,show((61:Int)==45)=false from rfl,show((121:Int)==120)=false from rfl,show((121:Int)==121)=true from rfl,Bool.false_eq_true,if_false,if_true]
   cases jU (a.digit)<;>rfl)
 exact key 2 m.s.z (λu=>{m with s:={m.s with z:=u}}) (by omega) (by omega) hoz c6 f6 (λu=>H.out.Vw u) (by
  unfold bC dJ k8 fX Ch.var;rw[e,el];simp only[show((61:Int)==33)=false from rfl,show((61:Int)==64)=false from rfl,show((61:Int)==126)=false from rfl,show((61:Int)==35)=false from rfl,show((61:Int)==43)=false from rfl,show((61:Int)==45)=false from rfl,show((122:Int)==120)=false from rfl,show((122:Int)==121)=false from rfl,Bool.false_eq_true,if_false]
  cases jU (a.digit)<;>rfl)
end
namespace Ch
theorem Cq(a:Ac)(l:List Ac):enc (a::l)=vq a++enc l:=by simp[enc]
theorem Kl(a:Ac):2<=(vq a).length:=by unfold vq;split<;>simp
theorem aax{l:List Ac}{s:ByteArray}(h:dW s=enc l):(s.size=0↔l=[]):=by
 rw[<-bz,h]
 cases l with
 |nil=>simp[enc]
 |cons a l=>rw[Cq];have:=Kl a;simp;intro h;rw[h]at this;simp at this
end Ch
def Xp(v:Value):Nat:=match v with| .string t=>t.size|_=>0
section
variable (w:World) (xb cb g n:Nat) (pv:Value)
theorem yG(m:Ma)(rz:List Ac)(s:ByteArray)(h:fy w xb cb g n pv m)(hs:dW s=Ch.enc rz)(hv:∀a∈rz,uB a)(hok:m.s.Ok)(hT:Dt 48 m.s)(hq:m.Sz 999990000)(hl:rz.length<=1000)(hss:s.size<=1000):
 Calls prog 246 #[.pointer (some ⟨xb,0,none⟩),.string s] w λx w'=>x= .returned (.tuple #[])/\fy w' xb cb g n pv (cJ rz m)/\Kp (λk=>k=xb) w w':=by
 go_enter func246,ntmps246
 go_wp2_with fail
 go_loopw [1] (λsv wr=>∃(t:ByteArray) (as':List Ac) (m':Ma),sv= .string t/\dW t=Ch.enc as'/\t.size<=1000/\(∀a∈as',uB a)/\Hid (cJ rz m=cJ as' m')/\fy wr xb cb g n pv m'/\m'.s.Ok/\Dt 48 m'.s/\m'.q.length+as'.length<=999990000+rz.length/\m'.out.length+as'.length<=999990000+rz.length/\Kp (λk=>k=xb) w wr) (λsv _=>Xp sv)
 case atStart=>exact⟨s,rz,m,rfl,hs,hss,hv,hid rfl,h,hok,hT,by have:=hq.1;omega,by have:=hq.2;omega,Kp.refl _ _⟩
 case round=>
  obtain⟨t,as',m',rfl,ht,htl,hv',HE,hm',hok',hT',hq1,hq2,KW⟩:=hrel;have hpos:=aax ht
  cases has:as' with
  |nil=>
   subst has;have h0:t.size=0:=hpos.2 rfl
   have h0':¬(0:Int)<(t.size:Int):=by omega
   have HR:=hid HE.out;clear h hs hv ht hpos HE
   go_wp2_with fail
   go_end0
   rw[HR.out];exact⟨rfl,hm',KW⟩
  |cons a as2=>?_
  subst has;rw[Cq]at ht;have hb:=congrArg List.length ht;rw[bz,List.length_append]at hb;have hal:=Kl a
  have h0:(0:Int)<(t.size:Int):=by omega
  simp only[List.length_cons]at hq1 hq2;have ha:=hv' a (by simp);have E:=hid (Xo wr xb cb g n pv m' t a (Ch.enc as2) hm' ht ha hok' hT'.2 ⟨by omega,by omega⟩ htl);have hqa:=Gp m' a;have Zo:=wu hok' a;have hTa:=JB (by omega) hT' ha
  cases q1:(bC m' a).1 with
  |true=>
   rw[q1]at E;have HF:=hid (HE.out.trans (show _=cJ as2 (bC m' a).2 by simp only[cJ];rw[q1];rfl));have HV:=hid (λb hb=>hv' b (List.mem_cons_of_mem _ hb));clear h hs hv ht hpos HE hm' hv'
   go_wp2_with fail
   refine bH E ?_;rintro x w2 ⟨rest,rfl,hr,M2,K2⟩;have hr':=hr q1
   have hrl:rest.size=(Ch.enc as2).length:=by rw[<-bz,hr']
   have HK:=hid (KW.trans K2);clear E K2 KW hr;go_wp2
   go_roundw
   case rel=>exact⟨rest,as2,_,rfl,hr',by omega,HV.out,HF,M2,Zo,hTa,by omega,by omega,HK.out⟩
   case measure=>simp[Xp];omega
  |false=>?_
  rw[q1]at E;have HF:=hid (HE.out.trans (show _={(bC m' a).2 with q:=(bC m' a).2.q++[122]}by simp only[cJ];rw[q1];rfl));clear h hs hv ht hpos HE hm' hv'
  go_wp2_with fail
  refine bH E ?_;rintro x w2 ⟨rest,rfl,_,M2,K2⟩;have HK:=hid (KW.trans K2);have c7:w2.cell? ⟨xb,7,none⟩=some (.string (strOfNums (bC m' a).2.q)):=M2.cell 7;have f7:=M2.free 7
  have z7:(strOfNums (bC m' a).2.q).size<=1000000000:=by rw[strOfNums_size];omega
  have HM:=hid (M2.MR ((bC m' a).2.q++[122]));clear E K2 KW M2;go_wp2;refine bodyPost_ret (results_none rfl _ _ _) rfl ?_;rw[HF.out];refine⟨rfl,?_,HK.out.setCell (by intro _;rfl) _⟩
  have e:strOfNums ((bC m' a).2.q++[122])=strOfNums (bC m' a).2.q++⟨#[122]⟩:=by rw[jn];rfl
  rw[<-e];exact HM.out
end
section
variable (w:World) (xb cb g n:Nat) (pv:Value) (m:Ma)
theorem OG(rt:RT)(x:Tr)(h:fy w xb cb g n pv m)(hx:vu rt x)(hss:rt.text.size<=1000):
 Calls prog 274 #[.pointer (some ⟨xb,0,none⟩),.string rt.text] w λy w'=>y= .returned (.bool (Ch.holds m.s x.guard))/\Kp (λ_=>False) w w':=by
 obtain⟨hsz,hg⟩:=QN hx
 have hx1:1<rt.text.size:=by omega
 have c4:w.cell? ⟨xb,4,none⟩=some (.int .i64 m.s.x):=h.cell 4;have c5:w.cell? ⟨xb,5,none⟩=some (.int .i64 m.s.y):=h.cell 5;have c6:w.cell? ⟨xb,6,none⟩=some (.int .i64 m.s.z):=h.cell 6;generalize rt.text=s at*
 have hp1:af s 1=((s[1]'hx1).toNat:Int):=by simp[af,hx1]
 clear h hx
 rcases hg with⟨h0,hne,_⟩|⟨hv,hs,hd0,hd9,h7,h1,h2,h3,h4,_⟩
 ·have t:(((s[1]'hx1).toNat:Int)!=63)=true:=by rw[<-hp1];simpa using hne
  have HR:=hid (show Ch.holds m.s x.guard=true by unfold Ch.holds;rw[h0];rfl);clear hp1 hne h0
  go_enter func274,ntmps274
  go_wp2;go_ret;rw[HR.out];exact⟨rfl,Kp.refl _ _⟩
 have t:(((s[1]'hx1).toNat:Int)!=63)=false:=by rw[<-hp1,h1];rfl
 have hx2:2<s.size:=by omega
 have hx3:3<s.size:=by omega
 have hx4:4<s.size:=by omega
 have b2:((s[2]'hx2).toNat:Int)=x.guard.var:=by rw[<-h2];simp[af,hx2]
 have b3:((s[3]'hx3).toNat:Int)=x.guard.sign:=by rw[<-h3];simp[af,hx3]
 have b4:((s[4]'hx4).toNat:Int)=48+x.guard.digit:=by rw[<-h4];simp[af,hx4]
 obtain⟨vv,hvv⟩:∃vv,Ch.var m.s x.guard.var=vv:=⟨_,rfl⟩
 have hsg:x.guard.sign=60\/x.guard.sign=61\/x.guard.sign=62:=by unfold me at hs;simp at hs;omega
 have hH:Ch.holds m.s x.guard=if x.guard.sign==60 then decide (vv<x.guard.digit)else if x.guard.sign==61 then vv==x.guard.digit else if x.guard.sign==62 then decide (x.guard.digit<vv)else true:=by unfold Ch.holds;rw[hvv]
 have hn:((s[4]'hx4).toNat:Int)-48=x.guard.digit:=by omega
 rw[<-hn]at hH
 have lo:48<=((s[4]'hx4).toNat:Int):=by omega
 have hi:((s[4]'hx4).toNat:Int)<=57:=by omega
 have hcell:∃k:Nat,((s[2]'hx2).toNat:Int)=120+k/\k<3/\w.cell? ⟨xb,4+k,none⟩=some (.int .i64 vv):=by
  rcases uC hv with e|e|e
  ·exact⟨0,by omega,by omega,by rw[c4,<-hvv,e];rfl⟩
  ·exact⟨1,by omega,by omega,by rw[c5,<-hvv,e];rfl⟩
  exact⟨2,by omega,by omega,by rw[c6,<-hvv,e];rfl⟩
 clear hp1 hn b4 h4 h3 h2 h1 hvv c4 c5 c6 b2 hv hs;obtain⟨k,hk,hk3,ck⟩:=hcell
 have aoW:(k:Int)<3:=by omega
 have hsub:(120:Int)+(k:Int)-120=(k:Int):=by omega
 rcases hsg with e|e|e<;>rw[e]at b3 hH
 all_goals
  have HH:=hid hH
  first|have t60:(((s[3]'hx3).toNat:Int)==60)=true:=by rw[b3];rfl|have t60:(((s[3]'hx3).toNat:Int)==60)=false:=by rw[b3];rfl
  first|have t61:(((s[3]'hx3).toNat:Int)==61)=true:=by rw[b3];rfl|have t61:(((s[3]'hx3).toNat:Int)==61)=false:=by rw[b3];rfl
  first|have t62:(((s[3]'hx3).toNat:Int)==62)=true:=by rw[b3];rfl|have t62:(((s[3]'hx3).toNat:Int)==62)=false:=by rw[b3];rfl
  clear hH b3 e
  rcases Int.lt_trichotomy vv (((s[4]'hx4).toNat:Int)-48)with c|c|c
 all_goals
  go_enter func274,ntmps274
  go_wp2
  go_quiet (fail)
  go_wp2;go_ret;rw[HH.out];refine⟨?_,(Kp.refl _ _).drewN _⟩
  first
  |(simp only[show((60:Int)==60)=true from rfl,show((61:Int)==60)=false from rfl,show((61:Int)==61)=true from rfl,show((62:Int)==60)=false from rfl,show((62:Int)==61)=false from rfl,show((62:Int)==62)=true from rfl,if_true,Bool.false_eq_true,if_false];simp;done)
  |(simp;omega)
end
section
variable (w:World)
theorem TP(rt:RT)(x:Tr)(hx:vu rt x)(hss:rt.text.size<=1000):
 Calls prog 247 #[.string rt.text] w λy w'=>∃t,y= .returned (.string t)/\(dW t=Ch.enc x.acts/\t.size<=1000)/\w'=w:=by
 obtain⟨hsz,hg⟩:=QN hx
 have hx1:1<rt.text.size:=by omega
 generalize rt.text=s at*
 have hp1:af s 1=((s[1]'hx1).toNat:Int):=by simp[af,hx1]
 have e2:((s.size:Int)-2).toNat=s.size-2:=by omega
 have af_:∀p q,(s.extract p q).size<=1000:=λp q=>by simp;omega
 clear hx
 rcases hg with⟨h0,hne,hR⟩|⟨hv,hs,hd0,hd9,h7,h1,h2,h3,h4,hR⟩
 ·have t:(((s[1]'hx1).toNat:Int)==63)=false:=by rw[<-hp1];simpa using hne
  have HR:=hid hR
  have g1:(1:Int)<=(s.size:Int)-2:=by omega
  clear hp1 hne h0 hR
  go_enter func247,ntmps247
  go_wp2;go_ret;exact⟨_,rfl,⟨HR.out,af_ _ _⟩,rfl⟩
 have t:(((s[1]'hx1).toNat:Int)==63)=true:=by rw[<-hp1,h1];rfl
 have HR:=hid hR
 have g1:(5:Int)<=(s.size:Int)-2:=by omega
 clear hp1 h1 h2 h3 h4 hR hs hv
 go_enter func247,ntmps247
 go_wp2;go_ret;exact⟨_,rfl,⟨HR.out,af_ _ _⟩,rfl⟩
end
section
variable (w:World) (B cb:Nat)
theorem nV(l:List NV)(v:Value)(a:Int)(i:Nat)(hF:iG w B cb l v)(hi:i<l.length)(hu:Up (Ch.ag l))(ha: -1<=a):
 Calls prog 243 #[.pointer (some ⟨cb,0,none⟩),.int .i64 a,.int .i64 i] w λy w'=>y= .returned (.bool (au (Ch.ag l) a i))/\w'=w:=by
 obtain⟨ao,cap,rfl⟩:=hF.2.1.len;have zc:=hF.cell
 by_cases h0:a<0
 ·have HR:=hid (show au (Ch.ag l) a i=true by rw[show a= -1 by omega];exact Ag hu (by omega) (by omega))
  clear hF
  go_enter func243,ntmps243
  go_wp2;go_ret;rw[HR.out];exact⟨rfl,rfl⟩
 have hi':(i:Int)<(l.length:Int):=by omega
 obtain⟨x,hx⟩:∃x,l[i]? =some x:=⟨_,List.getElem?_eq_getElem hi⟩
 obtain⟨g,cap',hv,_,hcell,_⟩:=hF.2.1.form hx;simp only[Value.slice.injEq]at hv;obtain⟨rfl,-,rfl⟩:=hv;have z2:w.cell? ⟨g,i*7+2,none⟩=some (.int .i64 x.n.parent):=hcell 2 (by omega);have hst:=dx hu a (i:=(i:Int)) (by omega);rw[GO hx]at hst;have hp:=hu i ⟨x.n.name,x.n.pos,x.n.kind,x.n.parent⟩ (by unfold Ch.ag Ch.mk;rw[List.getElem?_map,List.getElem?_map,hx];rfl);simp only at hp;have HST:=hid hst;have HF:=hid hF;clear hF hcell hst
 go_enter func243,ntmps243
 go_wp2_with fail
 go_loop [7] (λjv=>∃p:Int,jv= .int .i64 p/\ -1<=p/\p<l.length/\Hid (au (Ch.ag l) a i=(p==a||au (Ch.ag l) a p))) (λjv=>(intOf jv+1).toNat)
 case atStart=>exact⟨x.n.parent,rfl,hp.1,by omega,HST⟩
 case round=>
  obtain⟨p,rfl,hp1,hp2,HE⟩:=hrel
  by_cases hp0:0<=p
  ·obtain⟨k,rfl⟩:∃k:Nat,p=k:=⟨p.toNat,by omega⟩
   have hk:k<l.length:=by omega
   obtain⟨y,hy⟩:∃y,l[k]? =some y:=⟨_,List.getElem?_eq_getElem hk⟩
   obtain⟨g3,xk,hv3,_,lA,_⟩:=HF.out.2.1.form hy;simp only[Value.slice.injEq,Option.some.injEq,Addr.mk.injEq,true_and,and_true]at hv3;obtain⟨rfl,rfl⟩:=hv3;have zk:w.cell? ⟨g,k*7+2,none⟩=some (.int .i64 y.n.parent):=lA 2 (by omega);have hst:=dx hu a (i:=(k:Int)) (by omega);rw[GO hy]at hst;have hpy:=hu k ⟨y.n.name,y.n.pos,y.n.kind,y.n.parent⟩ (by unfold Ch.ag Ch.mk;rw[List.getElem?_map,List.getElem?_map,hy];rfl);simp only at hpy
   cases q:(k:Int)==a with
   |true=>
    have HR:=hid (show au (Ch.ag l) a i=true by rw[HE.out,q];rfl);clear hst lA HE;go_wp2;go_ret;rw[HR.out];exact⟨rfl,rfl⟩
   |false=>?_
   have HR:=hid (show au (Ch.ag l) a i=(y.n.parent==a||au (Ch.ag l) a y.n.parent)by rw[HE.out,q,Bool.false_or,hst]);clear hst lA HE;go_wp2
   go_round
   case rel=>exact⟨y.n.parent,rfl,hpy.1,by omega,HR⟩
   case measure=>simp[intOf];omega
  have HR:=hid (show au (Ch.ag l) a i=false by
   rw[HE.out,mN _ _ (by omega),Bool.or_false]
   have:p≠a:=by omega
   simpa using this)
  clear HE;go_wp2;go_ret;rw[HR.out];exact⟨rfl,rfl⟩
end
end Go.Proofs.YtnlbchmfcebeeaaGreat
