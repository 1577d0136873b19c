import Derived.Test.YtnlbchmfcebeeaaGreatTSg
set_option maxHeartbeats 12800000
set_option maxRecDepth 100000
namespace Go.Proofs.YtnlbchmfcebeeaaGreat
open Go.Proofs.Tryz Ch
open Go.RowKit
theorem IG:(prog.info? 79).map (·.size)=some 3:=by kernel_rfl
theorem JS:∃d,prog.underlying 79=some d/\dU d=true:=⟨_,underlying79,rfl⟩
theorem II(r:Rq):(prog.info? 79).map (·.size)=some (r_ r).size:=IG
section
variable (w:World) {xb tb:Nat} {T:TypeId} {pc:Pc} {ol:Ol} {x:Sv} {kv:Value}
theorem MX(h:eX w xb tb T pc ol x kv)(u:Int)(r:Rq):
 Calls prog 84 #[.pointer (some ⟨xb,0,none⟩),.int .i64 u,.agg (r_ r)] w λy w'=>y= .returned (.int .i64 (oP x u r).2)/\g_ w w' xb tb T pc ol kv (oP x u r).1:=by
 obtain⟨dq,N1,AL⟩:=JS;have am:=h.low;have ao:=aR h.rN;have ap:=aR h.bO;have K1:Kp (λ_=>False) w (w.alloc (.cells (r_ r) 79)):=(Kp.refl _ _).alloc _;have F:=an w (.cells (r_ r) 79);have I:=h.au K1;have U:=af (vM _ I u);have rI:=II r
 by_cases hc:0<=u/\u<(x.ah.length:Int)
 ·obtain⟨n,rfl⟩:∃n:Nat,u=(n:Int):=⟨u.toNat,by omega⟩
  have hn:n<x.ah.length:=by omega
  obtain⟨t,hu⟩:∃t,x.ah[n]? =some t:=⟨_,ar hn⟩
  have xh:qK x (n:Int)=some t:=by unfold qK;rw[aq (by omega)];exact hu
  have E:(decide (0<=(n:Int))&&decide ((n:Int)<(x.ah.length:Int)))=true:=by simp;omega
  rw[E]at U;have x9:(w.alloc (.cells (r_ r) 79)).cell? _=some (.slice (some ⟨tb,0,none⟩) x.ah.length x.ah.length):=I.cell 9;have c0:(w.alloc (.cells (r_ r) 79)).cell? ⟨tb,n*45,none⟩=some _:=I.ew hu (j:=0) (by omega);have HU:=af (show oP x (n:Int) r=if t.kind≠0 then(x,11)else if mJ r then(aA x n (pQ r),0)else(x,12)by unfold oP;rw[xh];rfl)
  have aj:(n:Int)<(x.ah.length:Int):=by omega
  generalize oP x (n:Int) r=SS at*
  by_cases q:t.kind≠0
  ·have Z:=af (HU.out.trans (aq q))
   have J:=af (ae I K1);clear HU h I hu K1 hc xh E
   go_enter func84,ntmps84
   go_upto_region 1 with(fail)
   generalize w.alloc (.cells (r_ r) 79)=w1 at*
   go_wp2_with fail
   refine hm U ?_;rintro r w2 ⟨rfl,rfl⟩;clear U;go_wp2;go_ret;rw[Z.out];exact⟨rfl,(g_.of J.out.1 (J.out.2.mono (λ_ _ x=>x.elim)))⟩
  have HV:=af (HU.out.trans (ay q))
  have q':t.kind=0:=by simpa using q
  have ER:=af (AK (w.alloc (.cells (r_ r) 79)) r);have J:=af (ae I K1);have G:(pQ r).now.Wf:=nD
  have Y:∀W,eX W xb tb T pc ol x kv->eX (W.setRow tb (putAt (cU x.ah).toArray (n*45) (kn (pQ r)))) xb tb T pc ol (aA x n (pQ r)) kv:=by
   intro W hW;exact hW.P5 (t':=pQ r) hu G 0 (kn (pQ r)) (by rw[eW G];exact aC _) (by rw[List.take_zero,jG,c_ (by rw[eW G,eW (hW.Wu hu)];exact aC _),i_])
  have P6:=I.Fw
  have ad:∀W,eX W xb tb T pc ol x kv->W.heap[tb]? =some (.cells (cU x.ah).toArray 173 (0,0)):=λW hW=>hW.rN
  have Lw:n*45+(kn (pQ r)).length<=(cU x.ah).toArray.size:=by rw[P6,eW G];omega
  have sI:(prog.info? 173).map (·.size)=some (kn (pQ r)).length:=by rw[eW G];exact Iz
  have sO:=C0 (pQ r)
  have EN:=λW=>af (FC W r)
  generalize (cU x.ah).toArray=TA at*;generalize kn (pQ r)=TL at*;have HP:=af (ae Y (ae ad EN));clear HU h I hu K1 hc xh E q Y ad EN P6;generalize mJ r=rq at*;generalize Yt:r_ r=X at*
  go_enter func84,ntmps84
  go_upto_region 1 with(fail)
  generalize w.alloc (.cells X 79)=w1 at*
  go_wp2_with fail
  refine hm U ?_;rintro r w2 ⟨rfl,rfl⟩;clear U
  go_wp2_with (refine jO F N1 AL rI ?_)
  refine hm ER ?_;rintro r w3 ⟨rfl,K3⟩;have h3:=J.out.1.au K3;have KA:=J.out.2.trans K3;have lC:=K3.at_ F (λx=>x);have y9:w3.cell? _=some (.slice (some ⟨tb,0,none⟩) x.ah.length x.ah.length):=h3.cell 9;clear ER K3 F x9 c0 J
  cases rq with
  |false=>
   have Z:=af (HV.out.trans (ay (by simp)));have HK:=af (ae h3 KA);clear HV h3 KA;go_wp2;go_ret;rw[Z.out];exact⟨rfl,g_.of HK.out.1 (HK.out.2.mono (λ_ _ x=>x.elim))⟩
  |true=>?_
  have Z:=af (HV.out.trans (aq rfl));have KD:Kp (λ_=>False) w3 w3.drew:=(Kp.refl _ _).drewN 1
  have D:w3.drew.cell? ⟨xb,9,none⟩=some (.slice (some ⟨tb,0,none⟩) x.ah.length x.ah.length)/\w3.drew.heap[w.heap.size]? =some (.cells X 79 (0,0)):=⟨y9,lC⟩
  have EN:=HP.out.2.2 w3.drew;have HK:=af (ae (h3.au KD) (KA.trans KD));clear HV h3 KA KD
  go_upto_region 7 with(fail)
  refine bf (λw'=>w'.cell? ⟨xb,9,none⟩=some (.slice (some ⟨tb,0,none⟩) x.ah.length x.ah.length)/\w'.heap[w.heap.size]? =some (.cells X 79 (0,0))) (by kernel_rfl) ?_;refine bM 0 23 (.pointer (some ⟨xb,0,none⟩)) D ?_;refine bM 1 24 (.pointer (some ⟨xb,0,none⟩)) D ?_;refine bM 2 25 (.pointer (some ⟨xb,9,none⟩)) D ?_;refine eG 3 26 (.slice (some ⟨tb,0,none⟩) x.ah.length x.ah.length) rfl (λw' hS=>by simp[execOp,Act.eval,go_sem,hS.1]) D ?_;refine bM 4 27 (.int .i64 n) D ?_;refine eG 5 28 (.agg X) rfl (λw' hS=>du 79 (.tmp 5) rfl w.heap.size rfl 79 X (0,0) dq hS.2 N1 AL rI) D ?_;refine oX 6 ?_;refine dW (some 29) rfl 137 #[.agg X] (by simp[execOp,Act.eval,go_sem]) (.agg TL.toArray) _ EN.out ?_;intro w5 K5;have h5:=HK.out.1.au K5;have KB:=HK.out.2.trans K5
  have O:w5.cell? ⟨xb,9,none⟩=some (.slice (some ⟨tb,0,none⟩) x.ah.length x.ah.length)/\w5.heap[w.heap.size]? =some (.cells X 79 (0,0)):=⟨h5.cell 9,K5.at_ D.2 (λx=>x)⟩
  refine⟨O,?_⟩;simp only[Act.put,pA,pB,pC];refine eG 7 30 (.pointer (some ⟨tb,n*45,none⟩)) rfl (λw' _=>by simp[execOp,Act.eval,go_sem,aj]) O ?_;have aa:=HP.out.2.1 w5 h5;have hF:=HP.out.1 w5 h5;have KF:Kp _ _ (w5.setRow tb (putAt TA (n*45) TL)):=(KB.mono (S':=xo xb tb kv) (λ_ _ x=>x.elim)).setRow (λ_=>.inr (.inl rfl)) _
  have xI:(w5.setRow tb (putAt TA (n*45) TL)).cell? ⟨xb,9,none⟩=some (.slice (some ⟨tb,0,none⟩) x.ah.length x.ah.length)/\(w5.setRow tb (putAt TA (n*45) TL)).heap[w.heap.size]? =some (.cells X 79 (0,0)):=by
   refine⟨?_,by rw[cG _ _ _ _ (by omega)];exact O.2⟩;have e:=hF.cell 9;rw[e];simp[r9,aA]
  refine vn 8 (by kernel_rfl) rfl rfl (lY 173 (.tmp 30) (.tmp 29) rfl tb (n*45) TL rfl rfl 173 TA aa sI Lw sO ⟨xI,?_⟩);refine bF (by kernel_rfl) (bG ?_) _;simp only[Act.put];have HZ:=af (ae hF KF);clear hF KF xI O D h5 KB aa K5 EN;go_wp2;go_ret;rw[Z.out];exact⟨rfl,g_.of HZ.out.1 HZ.out.2⟩
 have xh:qK x u=none:=by
  unfold qK
  split
  ·rw[List.getElem?_eq_none_iff];omega
  rfl
 have E:(decide (0<=u)&&decide (u<(x.ah.length:Int)))=false:=by
  rw[Bool.eq_false_iff];intro e;apply hc;simpa using e
 rw[E]at U;have Z:=af (show oP x u r=(x,10)by unfold oP;rw[xh]);generalize oP x u r=SS at*;have J:=af (ae I K1);clear h I K1 hc xh E
 go_enter func84,ntmps84
 go_upto_region 1 with(fail)
 generalize w.alloc (.cells (r_ r) 79)=w1 at*
 go_wp2_with fail
 refine hm U ?_;rintro r w2 ⟨rfl,rfl⟩;clear U;go_wp2;go_ret;rw[Z.out];exact⟨rfl,(g_.of J.out.1 (J.out.2.mono (λ_ _ x=>x.elim)))⟩
end
section
variable (w:World) {xb tb:Nat} {pc:Pc} {ol:Ol} {x:Sv} {kv:Value}
theorem P9(h:eX w xb tb 138 pc ol x kv)(u:Int)(r:Rq):
 Calls prog 60 #[.pointer (some ⟨xb,0,none⟩),.int .i64 u,.agg (r_ r)] w λy w'=>y= .returned (.int .i64 (oP x u r).2)/\g_ w w' xb tb 138 pc ol kv (oP x u r).1:=by
 obtain⟨dq,N1,Z⟩:=JS;have X:Kp (λ_=>False) w (w.alloc (.cells (r_ r) 79)):=(Kp.refl _ _).alloc _;have E:=an w (.cells (r_ r) 79);have J:=X.drewN 1;have U:=af (MX (w.alloc (.cells (r_ r) 79)).drew (h.au J) u r);have rI:=II r;have HK:=af J;have I:=af h.low;generalize oP x u r=Y at*;generalize r_ r=G at*;clear h X J
 go_enter func60,ntmps60
 go_upto_region 1 with(fail)
 generalize w.alloc (.cells G 79)=w1 at*;have D:w1.drew.heap[w.heap.size]? =_:=E;refine bf (λw'=>w'.heap[w.heap.size]? =some (.cells G 79 (0,0))) (by kernel_rfl) ?_;refine bM 0 7 (.pointer (some ⟨xb,0,none⟩)) D ?_;refine bM 1 8 (.pointer (some ⟨xb,0,none⟩)) D ?_;refine bM 2 9 (.pointer (some ⟨xb,0,none⟩)) D ?_;refine bM 3 10 (.int .i64 u) D ?_;refine eG 4 11 (.agg G) rfl (λw' hS=>du 79 (.tmp 5) rfl w.heap.size rfl 79 G (0,0) dq hS N1 Z rI) D ?_;refine oX 5 ?_;refine dW (some 12) rfl 84 #[.pointer (some ⟨xb,0,none⟩),.int .i64 u,.agg G] (by simp[execOp,Act.eval,go_sem]) (.int .i64 Y.2) _ U.out ?_;intro w5 O;have F:=O.at_ I.out D;refine⟨F,?_⟩;refine kE 6 6 (.int .i64 Y.2) rfl (λw' _=>by simp[execOp,Act.eval,Act.put,go_sem]) F ?_;refine bF (by kernel_rfl) (bG ?_) _;simp only[Act.put,pA,pB,pC];have HQ:=af (g_.trans (HK.out.mono (λ_ _ x=>x.elim)) (λ_ e=>.inl e) O);clear U O F D E;go_wp2;go_ret;exact⟨rfl,HQ.out⟩
theorem MY(h:eX w xb tb 138 pc ol x kv)(E:x.Bd)(J:ol.Ok)(u:Int)(hg:∀t,qK x u=some t->ZO ol x t):
 Calls prog 38 #[.pointer (some ⟨xb,0,none⟩),.int .i64 u] w λr w'=>r= .returned (.tuple #[.agg (bJ (b8 ol x u).2.1),.bool (b8 ol x u).2.2.1,.int .i64 (b8 ol x u).2.2.2])/\g_ w w' xb tb 138 pc ol kv (b8 ol x u).1:=by
 obtain⟨dr,I,eJ⟩:=mz;have F:=h.low;have Z:Kp (λ_=>False) w (w.alloc (.cells aH 64)):=(Kp.refl _ _).alloc _;have D:=an w (.cells aH 64);have h1:=h.au Z;have Y:=af (IF _ h1 E J u (λt ht=>hg t ht));generalize b8 ol x u=SS at*;obtain⟨X,G,dn,e⟩:=SS;simp only at*;clear h h1 E hg
 go_enter func38,ntmps38
 go_upto_region 1 with(fail)
 generalize w.alloc (.cells aH 64)=w1 at*
 go_wp2_with fail
 refine hm Y ?_;rintro r w3 ⟨rfl,U⟩;have O:=U.at_ F D;have HQ:=af (g_.dR (Z.mono (λ_ _ x=>x.elim)) U O (bJ G));have j7:=ax w3 w.heap.size aH (bJ G) 64 (0,0) O;clear Y U D
 go_wp2_with (refine cj (bJ G) O aQ rfl (cE _) ?_)
 refine bg (bB rfl _ _ w.heap.size 64 (bJ G) (0,0) dr rfl j7 I eJ aQ) rfl ?_;exact⟨rfl,HQ.out⟩
theorem AM(h:eX w xb tb 138 pc ol x kv)(hk:x.kept.length<=1000):
 Calls prog 61 #[.pointer (some ⟨xb,0,none⟩)] w λr w'=>r= .returned (.slice (some ⟨w.heap.size,0,none⟩) x.kept.length x.kept.length)/\w'.ownsRow w.heap.size 3 1 (.slice (some ⟨w.heap.size,0,none⟩) x.kept.length x.kept.length) x.kept.length (x.kept.map λv=>.int .i64 v.num)/\Kp (λ_=>False) w w':=by
 have E:=af (C3 w h hk);clear h
 go_enter func61,ntmps61
 go_wp2_with fail
 refine hm E ?_;rintro r I ⟨rfl,G,F⟩;have D:=af (ae G F);clear E G F;go_wp2;go_ret;exact⟨rfl,D.out.1,D.out.2⟩
end
namespace Ch
def mK(t:ByteArray)(n:Int):Int:=
 if(read t).1 !=0 then(read t).1 else if n<1\/6<n then 10 else(df (read t).2.2).2.2
def FD(n:Nat):Sv:=⟨0,[],0,⟨#[]⟩,List.replicate n gC,0,0⟩
theorem VU{n:Nat}(h:n<=6):(FD n).Bd:=⟨by simp[FD],by simp[FD],by simp[FD],by simp[FD],aG _,aG _,by simp[FD],by simp[FD],by simpa[FD]using h⟩
theorem xq{ol:Ol}(D:ol.Ok):(df ol).2.1.size<=10000000000:=by
 have E:=vl D (m:=⟨cS ol.ai,[],[]⟩) (n:=0) ⟨by simp,by simp⟩ [];have F:=Bh D 30 E;unfold df finish
 split
 ·simp_all
 show(strOfNums _).size<=_;rw[cC];have:=F.2;omega
end Ch
structure S3(w:World)(tb:Nat)(pc:Pc)(ol:Ol)(x:Sv)(kv:Value):Prop where
 row:w.ownsRow 0 261 38 kv x.kept.length (il x.kept)
 rN:w.heap[tb]? =some (.cells (cU x.ah).toArray 173 (0,0))
 wf:∀v∈x.kept,v.now.Wf
 tw:∀t∈x.ah,t.now.Wf
 pl:∃B lt lb,Dh w B ol pc.c pc.d pc.e lt lb
theorem eX.val{w:World}{xb tb:Nat}{T:TypeId}{pc:Pc}{ol:Ol}{x:Sv}{kv:Value}(h:eX w xb tb T pc ol x kv):S3 w tb pc ol x kv:=⟨h.row,h.rN,h.wf,h.tw,h.pl⟩
theorem S3.au{w w':World}{tb:Nat}{pc:Pc}{ol:Ol}{x:Sv}{kv:Value}(h:S3 w tb pc ol x kv)(K:Kp (λ_=>False) w w'):S3 w' tb pc ol x kv:=by
 obtain⟨B,lt,lb,F⟩:=h.pl;exact⟨K.owns h.row (λ_ _ x=>x),K.at_ h.rN (λx=>x),h.wf,h.tw,B,lt,lb,F.au K⟩
theorem S3.bO{w:World}{xb tb:Nat}{T:TypeId}{pc:Pc}{ol:Ol}{x:Sv}{kv:Value}(h:S3 w tb pc ol x kv)(hb:w.heap[xb]? =some (.cells (r9 pc x kv tb) T (0,0)))(D:T=136\/T=138):eX w xb tb T pc ol x kv:=
 ⟨hb,h.row,h.rN,h.wf,h.tw,D,h.pl⟩
def P_(w w':World)(t:ByteArray)(n:Int)(A:Array Value):Prop:=
 (mK t n≠0->A=gK)/\(mK t n=0->∃tb pc kv,A=r9 pc (pN (Ch.read t).2.2 n.toNat) kv tb/\S3 w' tb pc (Ch.read t).2.2 (pN (Ch.read t).2.2 n.toNat) kv/\w.heap.size<=tb/\(∀k,kv.ownBlock=some k->w.heap.size<=k)/\A.all (λx=>x.oneCell')=true)
def VV(w w':World)(t:ByteArray)(n:Int)(v:Value):Prop:=
 (mK t n≠0->v= .pointer none)/\(mK t n=0->∃xb tb pc kv,v= .pointer (some ⟨xb,0,none⟩)/\eX w' xb tb 138 pc (Ch.read t).2.2 (pN (Ch.read t).2.2 n.toNat) kv/\∀k,xo xb tb kv k->w.heap.size<=k)
theorem mL:(prog.info? 136).map (·.size)=some 12:=by kernel_rfl
theorem Uj:∃d,prog.underlying 136=some d/\dU d=true:=⟨_,underlying136,rfl⟩
theorem zI:(gK:Array Value).all (λx=>x.oneCell')=true:=by kernel_rfl
theorem Uk{pc:Pc}{x:Sv}{kv:Value}{tb:Nat}(E:pc.a.oneCell'=true)(F:pc.b.oneCell'=true)(G:pc.c.oneCell'=true)(I:pc.d.oneCell'=true)(J:pc.e.oneCell'=true)(O:kv.oneCell'=true):(r9 pc x kv tb).all (λx=>x.oneCell')=true:=by
 apply gN.2;intro y D;simp only[r9,lZ,dP,hY,h_]at D
 rcases D with rfl|rfl|rfl|rfl|rfl|rfl|rfl|rfl|rfl|rfl|rfl|rfl<;>first|assumption|rfl
theorem S4(n:Nat):madeCells Ae (n*45)=(cU (List.replicate n gC)).toArray:=by
 have I:=Fv;rw[<-I];have O:=eW (t:=gC) nD
 have D:∀a∈List.replicate n gC,(kn a).length=45:=by
  simp_all
 have G:=qF kn 45 (List.replicate n gC) D;rw[List.length_replicate]at G;apply Array.ext_getElem?;intro i;unfold madeCells cU
 have e1:((List.replicate n gC).flatMap kn).toArray[i]? =((List.replicate n gC).flatMap kn)[i]?:=by simp
 rw[e1]
 by_cases hi:i<n*45
 ·have E:i/45<n:=by omega
  have F:i % 45<45:=by omega
  have J:i % 45<(kn gC).length:=by omega
  have:=jh kn 45 (List.replicate n gC) (i/45) gC (i % 45) D (by rw[List.getElem?_replicate,aq E]) F;grind
 simp_all
section
variable (w:World)
theorem MZ(t:ByteArray)(n:Int):
 Calls prog 82 #[.string t,.int .i64 n] w λr w'=>∃A,r= .returned (.tuple #[.agg A,.int .i64 (mK t n)])/\P_ w w' t n A/\Kp (λ_=>False) w w':=by
 obtain⟨dv,O,xC⟩:=Uj;obtain⟨ds,b0,kJ⟩:=iM;obtain⟨dO,bx,bo⟩:=W3;have bb:=an w (.cells gK 136);have K1:Kp (λ_=>False) w (w.alloc (.cells gK 136)):=(Kp.refl _ _).alloc _;have E0:=af (NF t (w.alloc (.cells gK 136)));have aI:=Jo t;have HN:=af (show∀w' A,P_ w w' t n A=((mK t n≠0->A=gK)/\(mK t n=0->∃tb pc kv,A=r9 pc (pN (Ch.read t).2.2 n.toNat) kv tb/\S3 w' tb pc (Ch.read t).2.2 (pN (Ch.read t).2.2 n.toNat) kv/\w.heap.size<=tb/\(∀k,kv.ownBlock=some k->w.heap.size<=k)/\A.all (λx=>x.oneCell')=true))from λ_ _=>rfl);have HU:=af (show mK t n=if(Ch.read t).1 !=0 then(Ch.read t).1 else if n<1\/6<n then 10 else(df (Ch.read t).2.2).2.2 from rfl);generalize P_ w=NV at*;generalize mK t n=NE at*;have b6:=K1.size
 go_enter func82,ntmps82
 go_wp2_with fail
 refine hm E0 ?_;rintro y w2 ⟨sv,tv,bv,lt,lb,rfl,F2,B2⟩;have K2:=Kg B2;have a0:=K2.at_ bb (λx=>x);have KA:=K1.trans K2;clear E0 bb K1 K2 B2 b6;generalize b3:Ch.read t=rd at*;obtain⟨re,rf,ol⟩:=rd;clear b3;simp only at aI F2 HU HN;have o1:=qV F2.ai;have o2:=qV F2.cW;have o3:=qV F2.eR;have Yu:=WL (e:=re) (f:=rf) o1 o2 o3;have E:=an w2 (.cells YW 87);have F:=ax (w2.alloc (.cells YW 87)) w2.heap.size _ (Nl re rf sv tv bv) 87 (0,0) E;have K3:Kp (λ_=>False) w2 ((w2.alloc (.cells YW 87)).setRow w2.heap.size (Nl re rf sv tv bv)):=((Kp.refl _ _).alloc _).setRow (λx=>by omega) _;have F3:=F2.au K3;have I:=K3.at_ a0 (λx=>x);have KB:=KA.trans K3;have cc:=aR a0;have HX:=af (ae F3 (ae KB F));clear a0 KA K3 KB F3 F2
 go_upto_region 2 with(refine cj (Nl re rf sv tv bv) E NG rfl Yu ?_)
 generalize (w2.alloc (.cells YW 87)).setRow w2.heap.size (Nl re rf sv tv bv)=w3 at*
 have z0:w3.cell? ⟨w2.heap.size,0,none⟩=some (.int .i64 re):=by rw[World.cell?,F];rfl
 clear E Yu;generalize w2.heap.size=ob at*
 cases q1:re !=0 with
 |true=>
  have X:=af (HU.out.trans (show _=re by rw[q1];rfl))
  go_upto_region 3 with(fail)
  have J:w3.drew.heap[ob]? =_:=F
  have G:(w3.drew.setRow w.heap.size gK).heap[ob]? =some (.cells (Nl re rf sv tv bv) 87 (0,0)):=by rw[cG _ _ _ _ (by omega)];exact F
  have KF:Kp _ _ (w3.drew.setRow w.heap.size gK):=(HX.out.2.1.drewN 1).setRow (λx=>by omega) _;refine bf (λw'=>w'.heap[ob]? =some (.cells (Nl re rf sv tv bv) 87 (0,0))) (by kernel_rfl) ?_;refine kE 0 16 (.agg gK) rfl (λw' _=>fA 136 #[] rfl gK [] rfl (by kernel_rfl)) J ?_;refine kE 1 17 (.pointer (some ⟨ob,0,none⟩)) rfl (λw' _=>by simp[execOp,Act.eval,Act.put,go_sem]) J ?_;refine kE 2 18 (.int .i64 re) rfl (λw' hS=>by(have c:w'.cell? ⟨ob,0,none⟩=some (.int .i64 re):=(by rw[World.cell?,hS];rfl);simp[execOp,Act.eval,Act.put,go_sem,c])) J ?_;refine cK 3 (by kernel_rfl) rfl rfl 136 (.tmp 4) (.tmp 16) rfl rfl w.heap.size gK (by simp[Act.eval,Act.put]) (by simp[Act.eval,Act.put]) 136 gK (by exact I) mL rfl zI G ?_;refine kE 4 5 (.int .i64 re) rfl (λw' _=>by simp[execOp,Act.eval,Act.put,go_sem]) G ?_;refine bF (by kernel_rfl) (bG ?_) _;simp only[Act.put,pA,pB,pC];go_wp2;refine oR (ax w3.drew _ _ _ _ _ (by exact I)) O xC mL ?_;refine⟨gK,by rw[X.out];rfl,?_,KF⟩;rw[HN.out,X.out];exact⟨λ_=>rfl,λe=>by rw[e]at q1;simp at q1⟩
 |false=>?_
 have b4:re=0:=by simpa using q1
 have HV:=af (HU.out.trans (show _=if n<1\/6<n then 10 else(df ol).2.2 by rw[q1];rfl));clear HU
 by_cases q2:n<1\/6<n
 ·have X:=af (HV.out.trans (aq q2))
  have KF:Kp _ _ (w3.setRow w.heap.size gK):=HX.out.2.1.setRow (λx=>by omega) _;have j7:=ax w3 w.heap.size gK gK 136 (0,0) I;have HK:=af KF
  have aj:∀A:Array Value,A=gK->NV (w3.setRow w.heap.size gK) t n A:=by
   intro A hA;rw[HN.out,X.out];exact⟨λ_=>hA,λe=>by simp at e⟩
  have a4:=af aj;clear aj KF HV
  by_cases q3:n<1
  ·go_wp2_with (refine cj gK I mL rfl zI ?_)
   refine oR j7 O xC mL ?_;exact⟨gK,by rw[X.out];rfl,a4.out _ rfl,HK.out⟩
  have q4:6<n:=by omega
  go_wp2_with (refine cj gK I mL rfl zI ?_)
  refine oR j7 O xC mL ?_;exact⟨gK,by rw[X.out];rfl,a4.out _ rfl,HK.out⟩
 have X:=af (HV.out.trans (ay q2));clear HV
 have q3:¬n<1:=by omega
 have q4:¬ 6<n:=by omega
 obtain⟨k,rfl⟩:∃k:Nat,n=(k:Int):=⟨n.toNat,by omega⟩
 have b1:k<=6:=by omega
 have S5:((k:Int)).toNat=k:=by omega
 have S6:=Ld ol;have Yv:=xq aI;have HM:=af (show pN ol k=kj (FD k) (df ol).1 (df ol).2.1 from rfl);simp only[S5]at HN;have a9:=Pl.ofRow F HX.out.1;have E1:=af (GW w3 ob 0 ol a9 aI);generalize df ol=ms at*;obtain⟨fs,ft,fe⟩:=ms;simp only at S6 X E1 HM Yv;have fI:=iT S6.1;have fS:=jQ S6.1;have fO:=oh fs;clear a9 q2
 go_wp2_with fail
 refine hm E1 ?_;rintro y w4 ⟨rfl,K4⟩;have be:=K4.at_ I (λx=>x);have aa:=K4.at_ F (λx=>x);have F4:=HX.out.1.au K4;have KC:=HX.out.2.1.trans K4;have E:=an w4 (.cells cO 95);have rH:=ax (w4.alloc (.cells cO 95)) w4.heap.size cO (aY fs).toArray 95 (0,0) E;have K5:Kp (λ_=>False) w4 ((w4.alloc (.cells cO 95)).setRow w4.heap.size (aY fs).toArray):=((Kp.refl _ _).alloc _).setRow (λx=>by omega) _;have oW:=K5.at_ be (λx=>x);have ri:=K5.at_ aa (λx=>x);have HY:=af (ae (F4.au K5) (KC.trans K5));clear F4 KC K4 K5 HX E1 F aa be z0 I;generalize DL:(aY fs).toArray=FA at*;have Ro:=af DL;clear DL
 go_upto_region 7 with(refine cj FA E fI (by rw[fS];rfl) fO ?_)
 generalize (w4.alloc (.cells cO 95)).setRow w4.heap.size FA=D at*;generalize w4.heap.size=fb at*;clear E
 cases q5:fe !=0 with
 |true=>
  have ao:fe≠0:=by simpa using q5
  have KF:=HY.out.2.setRow (g:=w.heap.size) (λx=>by omega) gK;have j7:=ax D w.heap.size gK gK 136 (0,0) oW;have HK:=af KF;clear KF
  go_wp2_with (refine cj gK oW mL rfl zI ?_)
  refine oR j7 O xC mL ?_;refine⟨gK,by rw[X.out];rfl,?_,HK.out⟩;rw[HN.out,X.out];exact⟨λ_=>rfl,λe=>absurd e ao⟩
 |false=>?_
 have ao:fe=0:=by simpa using q5
 subst ao;subst b4;obtain⟨i0,a8,bi,a3,bk⟩:=bY VN;obtain⟨sa,sl,sc,rfl⟩:=gL HY.out.1.ai;obtain⟨ta,tl,tc,rfl⟩:=gL HY.out.1.cW;obtain⟨ba,bl,bc,rfl⟩:=gL HY.out.1.eR
 have Z:∀W:World,(Instr.makeSlice 134 (.int .i64 (k:Int)) (.int .i64 (k:Int))).run prog W= .ok (.slice (some ⟨W.heap.size,0,none⟩) k k) (W.alloc (.cells (cU (List.replicate k gC)).toArray 173)):=by
  intro W;have:=run_makeSlice (P:=prog) W 134 173 i0 (.agg Ae) underlying134 a8 bi .i64 .i64 (k:Int) (k:Int) (by omega) (Int.le_refl _) (by rw[a3];omega) (by rw[bk];omega) (by omega);rw[this,a3];simp only[S5];rw[<-S4 k];rfl
 have Yw:∀tb,r9 ⟨.int .i64 0,.int .i64 rf,.slice sa sl sc,.slice ta tl tc,.slice ba bl bc⟩ (FD k) (.slice none 0 0) tb= #[.int .i64 0,.int .i64 rf,.slice sa sl sc,.slice ta tl tc,.slice ba bl bc,.int .i64 0,.slice none 0 0,.int .i64 0,.string ⟨#[]⟩,.slice (some ⟨tb,0,none⟩) k k,.int .i64 0,.int .i64 0]:=by
  intro tb;simp[r9,FD]
 have HB:∀tb:Nat,prog.built 136 [(0,.agg (Nl 0 rf (.slice sa sl sc) (.slice ta tl tc) (.slice ba bl bc))),(3,.slice (some ⟨tb,0,none⟩) k k)]=some (r9 ⟨.int .i64 0,.int .i64 rf,.slice sa sl sc,.slice ta tl tc,.slice ba bl bc⟩ (FD k) (.slice none 0 0) tb):=by
  intro tb;rw[Yw];kernel_rfl
 have aS:∀tb,(r9 ⟨.int .i64 0,.int .i64 rf,.slice sa sl sc,.slice ta tl tc,.slice ba bl bc⟩ (FD k) (.slice none 0 0) tb).size=12:=λtb=>rfl
 have aO:∀tb,(r9 ⟨.int .i64 0,.int .i64 rf,.slice sa sl sc,.slice ta tl tc,.slice ba bl bc⟩ (FD k) (.slice none 0 0) tb).all (λx=>x.oneCell')=true:=λtb=>Uk rfl rfl rfl rfl rfl rfl
 have oI:_=some (Nl 0 rf (.slice sa sl sc) (.slice ta tl tc) (.slice ba bl bc)).size:=NG;have b7:=aR oW;generalize a6:(⟨.int .i64 0,.int .i64 rf,.slice sa sl sc,.slice ta tl tc,.slice ba bl bc⟩:Pc)=pc at*;generalize bt:Nl 0 rf (.slice sa sl sc) (.slice ta tl tc) (.slice ba bl bc)=OA at*;have HH:=af (ae Z (ae HB (ae aS aO)));clear Z HB Yw aS aO a8 bi a3 bk bt q5 o1 o2 o3;generalize a5:(cU (List.replicate k gC)).toArray=Y at*;generalize a7:r9 pc (FD k) (.slice none 0 0)=SV at*;have ZP:=af (ae a7 (ae a5 a6));clear a7 a5 a6
 go_upto_region 9 with(fail)
 go_cut [10]from 35 to 38 (λp wx=>∃xb tb,p= .pointer (some ⟨xb,0,none⟩)/\wx.heap[xb]? =some (.cells (SV tb) 136 (0,0))/\wx.heap[tb]? =some (.cells Y 173 (0,0))/\Kp (λ_=>False) D wx/\D.heap.size<=tb/\D.heap.size<=xb)
 case first=>
  obtain⟨Z,HB,aS,aO⟩:=HH.out;have J:D.drew.heap[ob]? =_:=ri;have AI:Kp (λ_=>False) D D.drew:=(Kp.refl _ _).drewN 1;refine bf (λw'=>w'.heap[ob]? =some (.cells OA 87 (0,0))) (by kernel_rfl) ?_;refine eG 0 35 (.agg OA) rfl (λw' hS=>du 87 (.tmp 6) rfl ob rfl 87 OA (0,0) dO hS bx bo oI) J ?_;refine bM 1 36 (.int .i64 k) J ?_;refine rh 2 4 (by kernel_rfl) rfl rfl rfl rfl ?_ ?_
  ·refine gI (some 37) rfl (.slice (some ⟨D.heap.size,0,none⟩) k k) (D.drew.alloc (.cells Y 173)) (by simp[execOp,Act.eval,go_sem,Z]) ?_
   have ap:=an D.drew (.cells Y 173);have K1:=AI.alloc (.cells Y 173);have G:=K1.at_ ri (λx=>x);have U:=an (D.drew.alloc (.cells Y 173)) (.cells gK 136);have K2:=K1.alloc (.cells gK 136);have ad:=K2.at_ ri (λx=>x)
   have es:(D.drew.alloc (.cells Y 173)).heap.size=D.heap.size+1:=by simp
   have K3:=K2.setRow (g:=D.heap.size+1) (λx=>by omega) (SV D.heap.size);have Cn:=K3.at_ ri (λx=>x);rw[es]at U;refine⟨G,?_⟩;refine kE 3 38 (.agg (SV D.heap.size)) rfl (λw' _=>fA 136 #[(0,.tmp 35),(3,.tmp 37)] rfl (SV D.heap.size) [(0,.agg OA),(3,.slice (some ⟨D.heap.size,0,none⟩) k k)] (by simp[Act.eval,Act.put]) (HB _)) G ?_;refine oX 4 ?_;refine gI (some 10) rfl (.pointer (some ⟨D.heap.size+1,0,none⟩)) ((D.drew.alloc (.cells Y 173)).alloc (.cells gK 136)) (by simp[execOp,go_sem]) ?_;refine⟨ad,?_⟩;refine cK 5 (by kernel_rfl) rfl rfl 136 (.tmp 10) (.tmp 38) rfl rfl (D.heap.size+1) (SV D.heap.size) (by simp[Act.eval,Act.put]) (by simp[Act.eval,Act.put]) 136 gK U (by rw[aS];exact mL) (by rw[aS];rfl) (aO _) Cn ?_;refine bF (by kernel_rfl) (bG ?_) _;simp only[Act.put,pA,pB,pC];go_wp2
   go_meet
   refine⟨D.heap.size+1,D.heap.size,rfl,ax _ _ _ _ _ _ U,?_,K3,aC _,by omega⟩;rw[cG _ _ _ _ (by omega),cQ _ _ _ (by simp)];exact ap
  refine gI (some 10) rfl (.pointer (some ⟨D.heap.size,0,none⟩)) (D.drew.alloc (.cells gK 136)) (by simp[execOp,go_sem]) ?_;have ap:=an D.drew (.cells gK 136);have K1:=AI.alloc (.cells gK 136);have G:=K1.at_ ri (λx=>x);have U:=an (D.drew.alloc (.cells gK 136)) (.cells Y 173);have K2:=K1.alloc (.cells Y 173);have ad:=K2.at_ ri (λx=>x)
  have es:(D.drew.alloc (.cells gK 136)).heap.size=D.heap.size+1:=by simp
  have K3:=K2.setRow (g:=D.heap.size) (λx=>by omega) (SV (D.heap.size+1));have Cn:=K3.at_ ri (λx=>x)
  have lC:((D.drew.alloc (.cells gK 136)).alloc (.cells Y 173)).heap[D.heap.size]? =some (.cells gK 136 (0,0)):=by
   rw[cQ _ _ _ (by simp)];exact ap
  rw[es]at U;refine⟨G,?_⟩;refine oX 2 ?_;refine gI (some 37) rfl (.slice (some ⟨D.heap.size+1,0,none⟩) k k) ((D.drew.alloc (.cells gK 136)).alloc (.cells Y 173)) (by simp[execOp,Act.eval,Act.put,go_sem,Z]) ?_;refine⟨ad,?_⟩;refine kE 3 38 (.agg (SV (D.heap.size+1))) rfl (λw' _=>fA 136 #[(0,.tmp 35),(3,.tmp 37)] rfl (SV (D.heap.size+1)) [(0,.agg OA),(3,.slice (some ⟨D.heap.size+1,0,none⟩) k k)] (by simp[Act.eval,Act.put]) (HB _)) ad ?_;refine cK 5 (by kernel_rfl) rfl rfl 136 (.tmp 10) (.tmp 38) rfl rfl D.heap.size (SV (D.heap.size+1)) (by simp[Act.eval,Act.put]) (by simp[Act.eval,Act.put]) 136 gK lC (by rw[aS];exact mL) (by rw[aS];rfl) (aO _) Cn ?_;refine bF (by kernel_rfl) (bG ?_) _;simp only[Act.put,pA,pB,pC];go_wp2
  go_meet
  refine⟨D.heap.size,D.heap.size+1,rfl,ax _ _ _ _ _ _ lC,?_,K3,by omega,aC _⟩;rw[cG _ _ _ _ (by omega)];exact U
 case rest=>
  obtain⟨xb,tb,rfl,a2,a1,KC,ce,cg⟩:=hcut;have F6:=HY.out.1.au KC;have KD:=HY.out.2.trans KC;have vV:=KC.at_ oW (λx=>x);have Y1:=KC.at_ rH (λx=>x);have ca:=aR rH;rw[<-ZP.out.1]at a2;rw[<-ZP.out.2.1]at a1
  obtain⟨B6,F6⟩:∃B,Dh wc B ol (.slice sa sl sc) (.slice ta tl tc) (.slice ba bl bc) lt lb:=⟨_,F6⟩
  have hS:eX wc xb tb 136 pc ol (FD k) (.slice none 0 0):=by
   refine⟨a2,bT _ _ _ _,a1,by simp[FD],?_,.inl rfl,B6,lt,lb,?_⟩
   ·intro t ht
    have b5:t∈List.replicate k gC:=ht;rw[List.eq_of_mem_replicate b5];exact nD
   rw[<-ZP.out.2.2];exact F6
  have EP:=af (s9 wc hS (VU b1) fs S6.1 ft Yv);rw[Ro.out,<-HM.out]at EP;generalize pN ol k=XX at*;clear F6 KC hS a2 a1 HH oW ri rH
  go_wp2_with (refine jO Y1 b0 kJ fI ?_)
  refine hm EP ?_;rintro y w7 ⟨rfl,NA,h7,n7,K7⟩
  have VW:w7.heap[w.heap.size]? =some (.cells gK 136 (0,0)):=K7.at_ vV (by
   rintro(e|e|e)
   ·omega
   ·omega
   simp[Value.ownBlock]at e)
  have Pz:=h7.bO
  have bm:∀k,NA.ownBlock=some k->w.heap.size<=k:=by
   intro k e
   rcases n7 k e with e|e
   ·simp[Value.ownBlock]at e
   have:=KD.size;omega
  have am:(r9 pc XX NA tb).all (λx=>x.oneCell')=true:=by
   refine Uk ?_ ?_ ?_ ?_ ?_ (qV h7.row)<;>rw[<-ZP.out.2.2]<;>rfl
  have ZQ:∀{b:Nat} {c:Array Value} {e:TypeId},w7.heap[b]? =some (.cells c e (0,0))->e≠136->b≠w.heap.size:=by
   intro b c e hb b2 hx;rw[hx,VW]at hb;simp only[bq,dI]at hb;exact b2 hb.2.1.symm
  have h8:eX (w7.setRow w.heap.size (r9 pc XX NA tb)) xb tb 136 pc ol XX NA:=by
   refine h7.az (S:=λk=>k=w.heap.size) ((Kp.refl (λk=>k=w.heap.size) w7).setRow (λ_=>rfl) _) (by omega) (ZQ h7.rN (by decide)) ?_ ?_
   ·intro k ek
    obtain⟨br,hc⟩:=bz h7.row ek;exact ZQ hc (by decide)
   intro i br e hi he;exact ZQ hi (by intro x;subst x;revert he;unfold C2;decide)
  have KF:Kp (λ_=>False) w (w7.setRow w.heap.size (r9 pc XX NA tb)):=by
   refine(KD.trans' K7 ?_).setRow (λx=>by omega) _;rintro i hi (e|e|e)
   ·have:=KD.size;omega
   ·have:=KD.size;omega
   simp[Value.ownBlock]at e
  have j7:=ax w7 w.heap.size gK (r9 pc XX NA tb) 136 (0,0) VW;have HZ:=af (ae h8 (ae KF (ae bm am)));have vI:_=some (r9 pc XX NA tb).size:=mL;have vS:(r9 pc XX NA tb).size=12:=rfl;generalize xk:r9 pc XX NA tb=AA at*;have QJ:=af xk;clear xk EP h7 n7 K7 h8 KF bm ZQ Y1 vV KD
  go_wp2_with (first|refine jO Pz O xC vI ?_|refine cj AA VW vI (by rw[vS];rfl) am ?_)
  refine oR j7 O xC vI ?_;refine⟨AA,by rw[X.out];rfl,?_,HZ.out.2.1⟩;rw[HN.out];exact⟨λe=>absurd X.out e,λ_=>⟨tb,pc,NA,QJ.out.symm,HZ.out.1.val,by omega,HZ.out.2.2.1,HZ.out.2.2.2⟩⟩
theorem Qa(t:ByteArray)(n:Int):
 Calls prog 58 #[.string t,.int .i64 n] w λr w'=>∃v,r= .returned (.tuple #[v,.int .i64 (mK t n)])/\VV w w' t n v/\Kp (λ_=>False) w w':=by
 obtain⟨dv,aj,xC⟩:=Uj;have E:=af (MZ w t n);have HN:=af (show∀w' A,P_ w w' t n A=((mK t n≠0->A=gK)/\(mK t n=0->∃tb pc kv,A=r9 pc (pN (Ch.read t).2.2 n.toNat) kv tb/\S3 w' tb pc (Ch.read t).2.2 (pN (Ch.read t).2.2 n.toNat) kv/\w.heap.size<=tb/\(∀k,kv.ownBlock=some k->w.heap.size<=k)/\A.all (λx=>x.oneCell')=true))from λ_ _=>rfl);have HQ:=af (show∀w' v,VV w w' t n v=((mK t n≠0->v= .pointer none)/\(mK t n=0->∃xb tb pc kv,v= .pointer (some ⟨xb,0,none⟩)/\eX w' xb tb 138 pc (Ch.read t).2.2 (pN (Ch.read t).2.2 n.toNat) kv/\∀k,xo xb tb kv k->w.heap.size<=k))from λ_ _=>rfl);generalize P_ w=NV at*;generalize VV w=NQ at*;generalize mK t n=X at*;generalize pN (Ch.read t).2.2 n.toNat=XX at*;generalize (Ch.read t).2.2=ol at*
 go_enter func58,ntmps58
 go_wp2_with fail
 refine hm E ?_;rintro y F ⟨A,rfl,O,K1⟩;rw[HN.out]at O
 have D:A.all (λx=>x.oneCell')=true:=by
  by_cases q:X=0
  ·obtain⟨_,_,_,_,_,_,_,h⟩:=O.2 q;exact h
  rw[O.1 q];exact zI
 have iG:A.size=12:=by
  by_cases q:X=0
  ·obtain⟨_,_,_,h,_⟩:=O.2 q;rw[h];rfl
  rw[O.1 q];rfl
 have vI:(prog.info? 136).map (·.size)=some A.size:=by rw[iG];exact mL
 have J:=an F (.cells gK 136);have ad:=ax (F.alloc (.cells gK 136)) F.heap.size gK A 136 (0,0) J;have K2:Kp (λ_=>False) F ((F.alloc (.cells gK 136)).setRow F.heap.size A):=((Kp.refl _ _).alloc _).setRow (λx=>by omega) _;have U:=af (ae O (ae (K1.trans K2) K2));have am:=K1.size;have ao:=K2.size;clear E O K1 K2
 go_upto_region 2 with(refine cj A J vI (by rw[iG];rfl) D ?_)
 generalize (F.alloc (.cells gK 136)).setRow F.heap.size A=w2 at*;generalize F.heap.size=sb at*;clear J
 cases q:X !=0 with
 |true=>
  have I:X≠0:=by simpa using q
  go_wp2;go_ret2;refine⟨.pointer none,rfl,?_,U.out.2.1⟩;rw[HQ.out];exact⟨λ_=>rfl,λe=>absurd e I⟩
 |false=>?_
 have I:X=0:=by simpa using q
 subst I;obtain⟨tb,pc,kv,eA,hV,aa,Z,D⟩:=U.out.1.2 rfl;have Y:=hV.au U.out.2.2;have HB:=af (show prog.built 138 [(0,.agg A)]=some A by rw[eA];kernel_rfl);have K3:=U.out.2.1.alloc (.cells A 138);have G:=an w2 (.cells A 138);rw[eA]at G;have h3:=(Y.au ((Kp.refl _ _).alloc (.cells (r9 pc XX kv tb) 138))).bO G (.inr rfl);rw[<-eA]at h3;have ap:=U.out.2.1.size;have HZ:=af (ae h3 (ae K3 (ae aa Z)));clear h3 K3 hV Y G eA aa Z D
 go_wp2_with (first|refine jO ad aj xC vI ?_|(refine jc rfl 138 #[(0,.tmp 17)] rfl A [(0,.agg A)] ?_ HB.out ?_;rfl))
 go_ret2;refine⟨_,rfl,?_,HZ.out.2.1⟩;rw[HQ.out];refine⟨λe=>absurd rfl e,λ_=>⟨w2.heap.size,tb,pc,kv,rfl,HZ.out.1,?_⟩⟩;rintro k (e|e|e)
 ·omega
 ·rw[e];exact HZ.out.2.2.1
 exact HZ.out.2.2.2 k e
end
namespace Ch
def iB(n:Nat)(t:Tk):Bool:=decide (t.kind=3)&&decide (1<=t.steps)&&decide (t.pinned=(n:Int))
def eK(l:List Tk)(n:Nat):Nat:=l.countP (iB n)
def dB(made:Nat)(l:List Tk)(n:Nat):Bool:=decide (0<eK l n)||decide (made<=n+4)
def tf(all:List Sd)(l:List Tk)(n:Nat):Vr:=⟨n,all.getD n wS,eK l n⟩
def dD(all:List Sd)(l:List Tk):List Vr:=((List.range all.length).filter (dB all.length l)).map (tf all l)
theorem uO{all:List Sd}{l:List Tk}{v:Vr}:v∈dD all l↔∃n,n<all.length/\dB all.length l n=true/\v=tf all l n:=by
 grind[dD]
theorem C7{all:List Sd}{l D:List Tk}(h:∀n,eK l n=eK D n):dD all l=dD all D:=by
 have e:=funext h;unfold dD dB tf;rw[e]
theorem uP{l:List Tk}{u:Nat}{t:Tk}(h:l[u]? =some t)(t':Tk)(n:Nat):eK (l.set u t') n+(if iB n t then 1 else 0)=eK l n+(if iB n t' then 1 else 0):=by
 grind[eK]
theorem M0(l:List Tk)(n:Nat):eK l n<=l.length:=List.countP_le_length
theorem xr{all:List Sd}{l:List Tk}(s:Sd)(h:eK l all.length=0):lx (all.length+1) (dD all l++[⟨all.length,s,0⟩])=dD (all++[s]) l:=by
 unfold dD lx;rw[gu,List.length_singleton,l0,ic,ic,nG]
 congr 1
 ·rw[List.filter_map,List.filter_filter]
  have e1:∀n∈List.range all.length,(dB (all.length+1) l n)=((uf (all.length+1)∘tf all l) n&&dB all.length l n):=by
   grind[dB,uf,tf,eK]
  rw[List.filter_congr e1];apply nF;grind[tf]
 have e2:dB (all.length+1) l all.length=true:=by unfold dB;simp
 grind[uf,tf]
theorem wT{all:List Sd}{l:List Tk}{n:Nat}(X:n<all.length)(hk:dB all.length l n=true):
 ∃k,(dD all l)[k]? =some (tf all l n)/\∀(j:Nat) (v:Vr),(dD all l)[j]? =some v->v.num=n->j=k:=by
 have hm:n∈(List.range all.length).filter (dB all.length l):=gP.2 ⟨by simpa using X,hk⟩;obtain⟨k,E⟩:=List.mem_iff_getElem?.1 hm;refine⟨k,by unfold dD;rw[bw,E];rfl,?_⟩;intro j v D Y;have U:((List.range all.length).filter (dB all.length l)).Nodup:=pT _ List.nodup_range;unfold dD at D;rw[bw]at D
 cases q:((List.range all.length).filter (dB all.length l))[j]? with
 |none=>simp_all
 |some m=>?_
 rw[q]at D;simp at D;subst D;have F:m=n:=Y;subst F;obtain⟨G,J⟩:=aJ.1 q;obtain⟨I,O⟩:=aJ.1 E
 rcases Nat.lt_trichotomy j k with e|e|e
 ·exact absurd (J.trans O.symm) (List.pairwise_iff_getElem.1 U j k G I e)
 ·omega
 exact absurd (O.trans J.symm) (List.pairwise_iff_getElem.1 U k j I G e)
theorem FE{all:List Sd}{l:List Tk}(h:0<all.length):ee (dD all l)=all.getD (all.length-1) wS:=by
 unfold ee dD
 obtain⟨m,hm⟩:∃m,all.length=m+1:=⟨all.length-1,by omega⟩
 rw[hm,l0,ic]
 have e2:dB (m+1) l m=true:=by unfold dB;simp
 rw[List.filter_cons_of_pos e2];simp[tf]
theorem IJ{all:List Sd}{l:List Tk}(h:0<all.length):0<(dD all l).length:=by
 have:tf all l (all.length-1)∈dD all l:=uO.2 ⟨_,by omega,by unfold dB;simp;omega,rfl⟩;grind
theorem IK{all:List Sd}{l:List Tk}{u:Nat}{t t':Tk}(hu:l[u]? =some t){n:Nat}(J:n<all.length)(hk:dB all.length l n=true)(U:∀m,iB m t=false)(X:∀m,iB m t'=decide (m=n)):
 qH (dD all l) (n:Int)=(dD all (l.set u t'),true):=by
 obtain⟨k,D,E⟩:=wT (l:=l) J hk
 have G:=Fs (n:=(n:Int)) D rfl (λj v hj hv e=>by
  have:=E j v hv (by exact_mod_cast e)
  omega)
 rw[G]
 congr 1
 have Y:∀m,eK (l.set u t') m=eK l m+(if m=n then 1 else 0):=by
  intro m;have:=uP hu t' m;simp_all
 have F:∀m,dB all.length (l.set u t') m=dB all.length l m:=by
  grind[dB]
 apply eL;intro j;rw[List.getElem?_set];have I:=(aJ.1 D).1;have O:(List.range all.length).filter _=_:=List.filter_congr (λm _=>F m)
 grind[dD,dB,tf]
theorem IL{all:List Sd}{l:List Tk}{u:Nat}{t t':Tk}(hu:l[u]? =some t){n:Nat}(J:n<all.length)(U:∀m,iB m t=decide (m=n))(X:∀m,iB m t'=false):
 MR all.length (dD all l) (n:Int)=dD all (l.set u t')/\BP (dD all l) (n:Int)=all.getD n wS:=by
 have O:∀m,eK l m=eK (l.set u t') m+(if m=n then 1 else 0):=by
  intro m;have:=uP hu t' m;simp_all
 have hk:dB all.length l n=true:=by unfold dB;rw[O,aq rfl];simp
 obtain⟨k,G,I⟩:=wT (l:=l) J hk;have F:=JR G (λj v hj hv=>I j v hj hv);have D:Yk _ (n:Int)=_:=F;refine⟨?_,by unfold BP;rw[D];rfl⟩;unfold MR;rw[D];simp only;unfold AH lx
 have E:(dD all l).set k {tf all l n with pins:=(tf all l n).pins-1}=((List.range all.length).filter (dB all.length l)).map (tf all (l.set u t')):=by
  apply eL;grind[dD,dB,tf]
 rw[E,List.filter_map,List.filter_filter];unfold dD
 congr 1
 apply List.filter_congr;grind[hm,uf,tf,dB,eK]
def vO(l:List Tk):Nat:=l.countP (λt=>decide (t.kind=3)&&decide (1<=t.steps))
theorem Qb(t:Tk):∀(K:List Nat),K.Nodup->(K.map (λk=>if iB k t then 1 else 0)).sum<=(if(decide (t.kind=3)&&decide (1<=t.steps))=true then 1 else 0):=by
 intro K
 induction K with
 |nil=>simp_all
 |cons k K F=>?_
 intro h;obtain⟨G,E⟩:=List.nodup_cons.1 h;have I:=F E;simp only[List.map_cons,List.sum_cons]
 by_cases q:iB k t=true
 ·have D:=q
  unfold iB at D;simp only[gy,nO]at D
  have J:(K.map (λk=>if iB k t then 1 else 0)).sum=0:=by
   apply List.sum_eq_zero_iff_forall_eq_nat.2;grind[iB]
  simp_all
 simp_all
theorem Qc:∀(l:List Tk) (K:List Nat),K.Nodup->(K.map (eK l)).sum<=vO l:=by
 intro l
 induction l with
 |nil=>
  intro K _
  have:(K.map (eK [])).sum=0:=by
   apply List.sum_eq_zero_iff_forall_eq_nat.2;intro x E;obtain⟨j,O,rfl⟩:=ib.1 E;rfl
  omega
 |cons t l F=>?_
 intro K D;have I:=F K D;have J:=Qb t K D
 have e:∀K:List Nat,(K.map (eK (t::l))).sum=(K.map (eK l)).sum+(K.map (λk=>if iB k t then 1 else 0)).sum:=by
  intro K
  induction K with
  |nil=>rfl
  |cons k K G=>?_
  grind[eK,iB]
 grind[vO]
theorem S7(f:Nat->Nat):∀(K:List Nat),(∀k∈K,0<f k)->K.length<=(K.map f).sum:=by
 intro K
 induction K with
 |nil=>simp_all
 |cons k K D=>?_
 grind
def rP(n:Nat)(l:List Tk):List Nat:=(List.range n).filter (dB n l)
theorem zJ(all:List Sd)(l:List Tk):(dD all l).map Vr.num=rP all.length l:=by
 unfold dD rP;rw[List.map_map]
 conv=>rhs;rw[<-List.map_id ((List.range all.length).filter (dB all.length l))]
 rfl
theorem FF(n:Nat)(l:List Tk):rP n l=(List.range (n-4)).filter (dB n l)++List.range' (n-4) (n-(n-4)):=by
 unfold rP
 have e:List.range n=List.range (n-4)++List.range' (n-4) (n-(n-4)):=by
  rw[lJ,lJ,show n=(n-4)+(n-(n-4))by omega];have:=List.range'_append_1 (s:=0) (m:=n-4) (n:=n-(n-4));simp_all
 rw[e,ic]
 congr 1
 apply List.filter_eq_self.2;grind[dB]
theorem M6(n:Nat)(l:List Tk):((List.range (n-4)).filter (dB n l)).length<=vO l:=by
 refine bA (S7 (eK l) _ ?_) (Qc l _ (pT _ List.nodup_range));grind[dB]
theorem IM(l:List Tk):vO l<=l.length:=List.countP_le_length
theorem M7(n:Nat)(l:List Tk):n-(n-4)<=(rP n l).length/\(rP n l).length<=(n-(n-4))+vO l:=by
 grind[M6,FF]
theorem zK(all:List Sd)(l:List Tk):(dD all l).length<=4+l.length:=by
 grind[M7,zJ,IM]
def iO(ol:Ol)(s:Sd)(ev:ByteArray):Nat->Option (Sd×ByteArray)
 |0=>some (s,⟨#[]⟩)
 |k+1=>match iO ol s ev k with
  |some r=>if(b_ ol r.1 (ag ev k)).2.2==0 then some ((b_ ol r.1 (ag ev k)).1,r.2++(b_ ol r.1 (ag ev k)).2.1)else none
  |none=>none
def eU(all:List Sd):Sd:=all.getD (all.length-1) wS
structure VX(ol:Ol)(all:List Sd)(turn aU:Nat)(t:Tk):Prop where
 idle:t.kind=0->t=gC
 rq:t.kind≠0->mJ ⟨t.kind,t.events,t.at_⟩=true
 dr:t.drawn=true->(t.kind=1\/t.kind=2)/\turn<=t.bR/\t.bR<aU
 st:t.steps<=2
 Yx:t.kind≠3->t.steps=0
 S8:t.kind=3->1<=t.steps->0<=t.pinned/\t.pinned<(all.length:Int)/\(0<=t.at_->t.pinned=t.at_)
 C8:t.aw=0->t.out=⟨#[]⟩
 wk:0<t.aw->t.kind=1/\t.drawn=true/\t.bR=turn/\t.aw<t.events.size/\(t.at_<0\/t.at_=(all.length:Int)-1)/\iO ol (eU all) t.events t.aw=some (t.now,t.out)
structure SI(ol:Ol)(x:Sv)(all:List Sd)(log:ByteArray):Prop where
 made:x.made=all.length
 pos:0<all.length
 kept:x.kept=dD all x.ah
 FG:∀s∈all,Good ol s
 joined:x.joined=log.size
 tail:x.tail=log.extract (log.size-24) log.size
 len:x.ah.length<=6
 tk:∀(u:Nat) (t:Tk),x.ah[u]? =some t->VX ol all x.turn x.aU t
 C_:∀(i j:Nat) (ti tj:Tk),x.ah[i]? =some ti->x.ah[j]? =some tj->ti.drawn=true->tj.drawn=true->ti.bR=tj.bR->i=j
 Wx:∀k,x.turn<=k->k<x.aU->∃(i:Nat) (t:Tk),x.ah[i]? =some t/\t.drawn=true/\t.bR=k
 le:x.turn<=x.aU
theorem JT(ol:Ol)(all:List Sd)(a b:Nat):VX ol all a b gC:=
 ⟨λ_=>rfl,λh=>absurd rfl h,λh=>by simp[gC]at h,by simp[gC],λ_=>rfl,λh=>by simp[gC]at h,λ_=>rfl,λh=>by simp[gC]at h⟩
theorem th(m:Nat):iB m gC=false:=by simp[iB,gC]
theorem tT{t:Tk}(h:t.kind≠3)(m:Nat):iB m t=false:=by simp[iB,h]
theorem uQ{t:Tk}(h:t.steps=0)(m:Nat):iB m t=false:=by simp[iB,h]
theorem iI{l:List Tk}{u i:Nat}{t' a:Tk}(h:(l.set u t')[i]? =some a):(i=u/\a=t')\/(i≠u/\l[i]? =some a):=by
 grind
section
variable {ol:Ol} {x:Sv} {all:List Sd} {log:ByteArray}
theorem SI.kp(h:SI ol x all log){u:Nat}{t t':Tk}(hu:x.ah[u]? =some t)(D:∀m,iB m t'=iB m t):dD all (x.ah.set u t')=x.kept:=by
 rw[h.kept];apply C7;intro n;have:=uP hu t' n;simp_all
theorem SI.set(h:SI ol x all log){u:Nat}{t t':Tk}(hu:x.ah[u]? =some t)(hp:∀m,iB m t'=iB m t)(hI:VX ol all x.turn x.aU t')(F:t'.drawn=t.drawn)(U:t.drawn=true->t'.bR=t.bR):SI ol (aA x u t') all log:=by
 have O:=(aJ.1 hu).1;refine⟨h.made,h.pos,(h.kp hu hp).symm,h.FG,h.joined,h.tail,by simpa[aA]using h.len,?_,?_,?_,h.le⟩
 ·intro i a J
  rcases iI J with⟨_,rfl⟩|⟨_,J⟩
  ·exact hI
  exact h.tk i a J
 ·intro i j ti tj hi X D I e
  rcases iI hi with⟨rfl,rfl⟩|⟨ni,G⟩
  ·rcases iI X with⟨rfl,rfl⟩|⟨nj,E⟩
   ·rfl
   exact h.C_ _ _ _ _ hu E (by rw[<-F];exact D) I (by rw[<-U (by rw[<-F];exact D)];exact e)
  rcases iI X with⟨rfl,rfl⟩|⟨nj,E⟩
  ·exact h.C_ _ _ _ _ G hu D (by rw[<-F];exact I) (by rw[<-U (by rw[<-F];exact I)];exact e)
  exact h.C_ _ _ _ _ G E D I e
 intro k Y Z;obtain⟨i,a,hi,D,e⟩:=h.Wx k Y Z
 by_cases q:i=u
 ·subst q
  rw[hu]at hi;simp at hi;subst hi;exact⟨i,t',by simp[aA,O],by rw[F];exact D,by rw[U D];exact e⟩
 exact⟨i,a,by simp only[aA];rw[ku (λx=>q x.symm)];exact hi,D,e⟩
theorem SI.end_(h:SI ol x all log){u:Nat}{t:Tk}(hu:x.ah[u]? =some t)(E:∀m,iB m t=false)(D:t.drawn=false):SI ol (aA x u gC) all log:=
 h.set hu (λm=>by rw[th,E]) (JT _ _ _ _) (by rw[D];rfl) (λe=>by rw[D]at e;cases e)
theorem VX.bR{a b D:Nat}{t:Tk}(h:VX ol all a b t)(hb:b<=D):VX ol all a D t:=
 ⟨h.idle,h.rq,λd=>⟨(h.dr d).1,(h.dr d).2.1,Nat.lt_of_lt_of_le (h.dr d).2.2 hb⟩,h.st,h.Yx,h.S8,h.C8,h.wk⟩
theorem SI.draw(h:SI ol x all log){u:Nat}{t:Tk}(hu:x.ah[u]? =some t)(hk:t.kind=1\/t.kind=2)(hd:t.drawn=false):SI ol (nh x u t) all log:=by
 have U:=(aJ.1 hu).1;have E:=h.tk u t hu
 have k3:t.kind≠3:=by rcases hk with e|e<;>omega
 have hf:t.aw=0:=by
  rcases jH t.aw with e|e
  ·omega
  have:=(E.wk e).2.1;simp_all
 refine⟨h.made,h.pos,?_,h.FG,h.joined,h.tail,by simpa[nh,aA]using h.len,?_,?_,?_,?_⟩
 ·exact(h.kp hu (t':={t with drawn:=true,bR:=x.aU}) (λm=>rfl)).symm
 ·intro i a J
  rcases iI J with⟨_,rfl⟩|⟨_,J⟩
  ·refine⟨λe=>?_,E.rq,λ_=>⟨hk,h.le,?_⟩,E.st,E.Yx,E.S8,E.C8,λe=>?_⟩
   ·simp_all
   ·show x.aU<x.aU+1;omega
   simp_all
  exact(h.tk i a J).bR (cJ _)
 ·intro i j ti tj hi Y G X e
  rcases iI hi with⟨rfl,rfl⟩|⟨ni,F⟩
  ·rcases iI Y with⟨rfl,rfl⟩|⟨nj,D⟩
   ·rfl
   have:=((h.tk _ _ D).dr X).2.2;simp_all
  rcases iI Y with⟨rfl,rfl⟩|⟨nj,D⟩
  ·have:=((h.tk _ _ F).dr G).2.2
   simp_all
  exact h.C_ _ _ _ _ F D G X e
 ·intro k Z h2
  by_cases q:k=x.aU
  ·exact⟨u,{t with drawn:=true,bR:=x.aU},by simp[nh,aA,U],rfl,q.symm⟩
  have I:k<x.aU:=by have:k<x.aU+1:=h2;omega
  obtain⟨i,a,hi,G,e⟩:=h.Wx k Z I
  have O:i≠u:=by
   grind
  exact⟨i,a,by simp only[nh,aA];rw[ku (λx=>O x.symm)];exact hi,G,e⟩
 show x.turn<=x.aU+1;have:=h.le;omega
def k6(x:Sv)(u:Nat):Sv:={aA x u gC with turn:=x.turn+1}
theorem SI.done(h:SI ol x all log){u:Nat}{t:Tk}(hu:x.ah[u]? =some t)(F:t.drawn=true)(ht:t.bR=x.turn):SI ol (k6 x u) all log/\∀(i:Nat) (a:Tk),(k6 x u).ah[i]? =some a->a.aw=0:=by
 have Z:=h.tk u t hu
 have k3:t.kind≠3:=by rcases(Z.dr F).1 with e|e<;>omega
 have ad:∀(i:Nat) (a:Tk),i≠u->x.ah[i]? =some a->a.aw=0:=by
  intro i a hi D
  rcases jH a.aw with e|e
  ·omega
  have w:=(h.tk i a D).wk e;exact absurd (h.C_ i u a t D hu w.2.1 F (by rw[w.2.2.1,ht])) hi
 refine⟨⟨h.made,h.pos,(h.kp hu (t':=gC) (λm=>by rw[th,tT k3])).symm,h.FG,h.joined,h.tail,by simpa[k6,aA]using h.len,?_,?_,?_,?_⟩,?_⟩
 ·intro i a D
  rcases iI D with⟨_,rfl⟩|⟨U,D⟩
  ·grind[JT]
  have E:=h.tk i a D;refine⟨E.idle,E.rq,λd=>⟨(E.dr d).1,?_,(E.dr d).2.2⟩,E.st,E.Yx,E.S8,E.C8,λe=>?_⟩
  ·have X:=(E.dr d).2.1
   have Y:a.bR≠x.turn:=λe=>U (h.C_ i u a t D hu d F (by rw[e,ht]))
   show x.turn+1<=a.bR;omega
  grind
 ·intro i j ti tj hi hj G dj e
  rcases iI hi with⟨rfl,rfl⟩|⟨U,I⟩
  ·grind[gC]
  rcases iI hj with⟨rfl,rfl⟩|⟨nj,O⟩
  ·grind[gC]
  exact h.C_ _ _ _ _ I O G dj e
 ·intro k X Y
  have aa:x.turn+1<=k:=X;obtain⟨i,a,hi,G,e⟩:=h.Wx k (by omega) Y
  have J:i≠u:=by
   grind
  exact⟨i,a,by simp only[k6,aA];rw[ku (λx=>J x.symm)];exact hi,G,e⟩
 ·have:=(Z.dr F).2.2
  show x.turn+1<=x.aU;omega
 intro i a D
 rcases iI D with⟨_,rfl⟩|⟨U,D⟩
 ·rfl
 grind
theorem S9{α:Type}(A T O:List α)(h:24<=T.length):(T++O).drop (T.length+O.length-24)=(A++T++O).drop (A.length+T.length+O.length-24):=by
 have D:A.drop (A.length+T.length+O.length-24)=[]:=c_ (by omega);rw[iY,List.drop_append (l₁:=A),D,jG]
 grind
theorem VY{α:Type}(L O:List α):(L.drop (L.length-24)++O).drop ((L.drop (L.length-24)).length+O.length-24)=(L++O).drop (L.length+O.length-24):=by
 by_cases q:L.length<=24
 ·simp_all
 have E:(L.drop (L.length-24)).length=L.length-(L.length-24):=List.length_drop
 have D:(L.take (L.length-24)).length=L.length-24:=by rw[List.length_take];omega
 have:=S9 (L.take (L.length-24)) (L.drop (L.length-24)) O (by omega);rw[this,lK,E,D]
 congr 1
 omega
theorem Da(b:ByteArray)(k:Nat):(b.extract k b.size).data.toList=b.data.toList.drop k:=by
 rw[ByteArray.data_extract,Array.toList_extract,List.extract_eq_take_drop];apply List.take_of_length_le;simp_all
theorem FH(log o:ByteArray):zB (log.extract (log.size-24) log.size) o=(log++o).extract ((log++o).size-24) (log++o).size:=by
 unfold zB;apply ky;apply Array.toList_inj.1;rw[Da,Da,ByteArray.data_append,Array.toList_append,ByteArray.data_append,Array.toList_append,Da];have e1:log.size=_:=(Array.length_toList).symm;have e2:o.size=_:=(Array.length_toList).symm
 have e3:(log.extract (log.size-24) log.size++o).size=(log.data.toList.drop (log.data.toList.length-24)).length+o.data.toList.length:=by
  rw[iJ,pW,List.length_drop,<-e1,<-e2];omega
 rw[e3,iJ,e1,e2];exact VY _ _
theorem Qd(h:SI ol x all log):eK x.ah all.length=0:=by
 unfold eK;apply List.countP_eq_zero.2;intro t E;obtain⟨i,hi⟩:=List.mem_iff_getElem?.1 E;have D:=h.tk i t hi;intro e;unfold iB at e;simp only[gy,nO]at e;have:=(D.S8 e.1.1 e.1.2).2.1;omega
theorem SI.pub(h:SI ol x all log)(F:∀(i:Nat) (a:Tk),x.ah[i]? =some a->a.aw=0){s:Sd}(hs:Good ol s)(o:ByteArray):SI ol (kj x s o) (all++[s]) (log++o):=by
 have G:(all++[s]).length=all.length+1:=by simp
 refine⟨by rw[G];show x.made+1=_;rw[h.made],by omega,?_,?_,?_,?_,h.len,?_,h.C_,h.Wx,h.le⟩
 ·show lx (x.made+1) (x.kept++[⟨x.made,s,0⟩])=dD (all++[s]) x.ah
  rw[h.made,h.kept];grind[xr,Qd]
 ·intro a E
  rcases cB.1 E with E|E
  ·exact h.FG a E
  simp_all
 ·show x.joined+o.size=_
  rw[h.joined,iJ]
 ·show zB x.tail o=_
  rw[h.tail];grind[FH]
 intro i a E;have D:=h.tk i a E;refine⟨D.idle,D.rq,D.dr,D.st,D.Yx,λk1 k2=>?_,D.C8,λe=>?_⟩
 ·have:=D.S8 k1 k2
  omega
 have:=F i a E;omega
theorem SI.ee(h:SI ol x all log):Ch.ee x.kept=eU all:=by rw[h.kept];exact FE h.pos
theorem SI.FI(h:SI ol x all log):Good ol (eU all):=by
 apply h.FG;unfold eU;rw[lL,ar (by have:=h.pos;omega)];simp_all
end
theorem VZ:∀(n:Nat) {l:List Int},l.length<=n->TL 49 l->∀y∈l,1<=y:=by
 intro n
 induction n with
 |zero=>
  simp_all
 |succ n I=>?_
 intro l G h y D
 match l,h with
 | [],_=>cases D
 | [a],h=>grind[TL]
 |a::b::l,h=>
  obtain⟨E,F⟩:=h;grind[ez]
theorem Good.V0{ol:Ol}{s:Sd}(g:Good ol s):∀k,k<s.tm.size->1<=ag s.tm k:=by
 intro k hk
 have hm:ag s.tm k∈f_ s.tm:=by
  unfold ag f_;rw[dif_pos hk];exact ib.2 ⟨s.tm[k],by rw[ByteArray.getElem_eq_getElem_data];exact Array.getElem_mem_toList _,rfl⟩
 exact VZ _ (aC _) g.tl.1 _ hm
section
variable {t:ByteArray} {ol:Ol}
theorem Good.wait(D:BJ t ol){s:Sd}(g:Good ol s):(eb ol 17 (tick s) []).isSome=true:=by
 obtain⟨e1,e2⟩:=g.lg D;have:=VK e1;rw[e2,D.rd]at this;omega
theorem tn(D:BJ t ol){s:Sd}(g:Good ol s)(ev:ByteArray):∀(k:Nat) {r:Sd×ByteArray},iO ol s ev k=some r->Good ol r.1:=by
 intro k
 induction k with
 |zero=>grind[iO]
 |succ k E=>?_
 grind[iO,r0,BK]
end
theorem xt{ol:Ol}(D:ol.Ok)(s:Sd)(ev:ByteArray):∀(k:Nat) {r:Sd×ByteArray},iO ol s ev k=some r->r.2.size<=117000000*k:=by
 intro k
 induction k with
 |zero=>intro r h;simp[iO]at h;subst h;exact aG _
 |succ k E=>?_
 grind[iO,r0,kL,ag]
theorem wU{r:Rq}(h:mJ r=true):r.kind=1\/r.kind=2\/r.kind=3\/r.kind=4:=by
 grind[mJ]
theorem tU{r:Rq}(h:mJ r=true)(hk:r.kind=1):1<=r.events.size/\r.events.size<=4/\(∀j,j<r.events.size->ez (ag r.events j)=true)/\ -1<=r.at_:=by
 grind[mJ,iV]
section
variable {t:ByteArray} {ol:Ol} {x:Sv} {all:List Sd} {log:ByteArray}
theorem SI.bd(h:SI ol x all log)(hm:all.length<=1000000000000)(I:log.size<=100000000000000000)(J:x.aU<=1000000000000):x.Bd:=by
 have E:=h.len
 have F:x.tail.size=log.size-(log.size-24):=by rw[h.tail,pW];omega
 refine⟨by rw[h.made];omega,?_,?_,by rw[h.joined];omega,by omega,by rw[h.joined];omega,by omega,by have:=h.le;omega,E⟩
 ·rw[h.kept]
  grind[zK]
 intro v D;rw[h.kept]at D;obtain⟨n,G,_,rfl⟩:=uO.1 D;have:=M0 x.ah n;exact⟨by show n<=_;omega,by show eK x.ah n<=_;omega⟩
theorem SI.Ul(h:SI ol x all log)(X:BJ t ol)(U:ol.Ok){u:Nat}{k:Tk}(hu:x.ah[u]? =some k):ZO ol x k:=by
 have E:=h.tk u k hu;refine⟨λh3=>⟨by have:=E.st;omega,λh2=>?_⟩,λn3 n4 hd=>?_⟩
 ·obtain⟨p1,p2,_⟩:=E.S8 h3 (by omega)
  obtain⟨n,Y⟩:∃n:Nat,k.pinned=(n:Int):=⟨k.pinned.toNat,by omega⟩
  have O:n<all.length:=by omega
  have G:0<eK x.ah n:=by
   grind[eK,iB]
  have hk:dB all.length x.ah n=true:=by unfold dB;rw[gz G];rfl
  obtain⟨j,I,J⟩:=wT (l:=x.ah) O hk;refine⟨j,tf all x.ah n,by rw[h.kept];exact I,Y,G,?_⟩;intro i v hi Z;rw[h.kept]at hi;exact J i v hi Z
 have F:=h.FI;have D:=h.ee;refine⟨by rw[h.kept];exact IJ h.pos,by rw[D];exact F.ok,by rw[D];exact F.V0,by rw[D];exact F.wait X,?_,?_,?_⟩
 ·unfold ph
  split
  ·show(Ch.ee x.kept).Ok
   rw[D];exact F.ok
  rename_i q;exact(tn X F _ _ (E.wk (by omega)).2.2.2.2.2).ok
 ·rcases jH k.aw with e|e
  ·omega
  have w:=E.wk e;have:=tU (E.rq (by rw[w.1];decide)) w.1;grind
 rcases jH k.aw with e|e
 ·rw[E.C8 e];exact aG _
 have w:=E.wk e;have:=tU (E.rq (by rw[w.1];decide)) w.1;have h4:k.events.size<=4:=this.2.1;have h5:=w.2.2.2.1;have:=xt U _ _ _ w.2.2.2.2.2;grind
end
theorem zL{x:Sv}{u:Nat}{k:Tk}(hu:x.ah[u]? =some k):qK x (u:Int)=some k:=by
 grind[qK]
theorem IN{ol:Ol}{x:Sv}{u:Nat}{k:Tk}(hu:x.ah[u]? =some k)(D:k.kind=0):b8 ol x (u:Int)=(x,dT,false,13):=by
 grind[b8,zL]
theorem oQ{ol:Ol}{x:Sv}{u:Nat}{k:Tk}(hu:x.ah[u]? =some k)(D:k.kind≠0):b8 ol x (u:Int)=(if(k7 ol x u k).2.2 then aA (k7 ol x u k).1 u gC else(k7 ol x u k).1,(k7 ol x u k).2.1,(k7 ol x u k).2.2,0):=by
 grind[b8,zL]
section
variable {t:ByteArray} {ol:Ol} {x:Sv} {all:List Sd} {log:ByteArray} {u:Nat} {k:Tk}
theorem zM(hk:k.kind=1\/k.kind=2):k7 ol x u k=nk ol x u k:=by
 grind[k7]
theorem Qe(hk:k.kind=4):k7 ol x u k=(x,mY x k.at_,true):=by
 grind[k7]
theorem zN(hk:k.kind=3):k7 ol x u k=m_ ol x u k:=by
 unfold k7;rw[aq hk]
theorem M8(D:k.drawn=false):nk ol x u k=(nh x u k,dT,false):=by
 unfold nk;rw[aq D]
theorem M9(D:k.drawn=true)(E:k.bR≠x.turn):nk ol x u k=(x,dT,false):=by
 grind[nk]
theorem SI.abI(h:SI ol x all log)(hu:x.ah[u]? =some k)(hk:k.kind=4):b8 ol x (u:Int)=(aA x u gC,mY x k.at_,true,0)/\SI ol (aA x u gC) all log:=by
 refine⟨?_,h.end_ hu (tT (by rw[hk];decide)) ?_⟩
 ·rw[oQ hu (by rw[hk];decide),Qe hk]
  rfl
 cases q:k.drawn with
 |false=>rfl
 |true=>have:=((h.tk u k hu).dr q).1;omega
theorem SI.Um(h:SI ol x all log)(hu:x.ah[u]? =some k)(hk:k.kind=1\/k.kind=2)(D:k.drawn=false):b8 ol x (u:Int)=(nh x u k,dT,false,0)/\SI ol (nh x u k) all log:=by
 refine⟨?_,h.draw hu hk D⟩;rw[oQ hu (by rcases hk with e|e<;>rw[e]<;>decide),zM hk,M8 D];rfl
theorem SI.waits(hu:x.ah[u]? =some k)(hk:k.kind=1\/k.kind=2)(D:k.drawn=true)(E:k.bR≠x.turn):b8 ol x (u:Int)=(x,dT,false,0):=by
 rw[oQ hu (by rcases hk with e|e<;>rw[e]<;>decide),zM hk,M9 D E];rfl
theorem vP(hu:x.ah[u]? =some k)(hk:k.kind=1\/k.kind=2)(D:k.drawn=true)(E:k.bR=x.turn):b8 ol x (u:Int)=(if(fu ol x u k).2.2 then aA {(fu ol x u k).1 with turn:=(fu ol x u k).1.turn+1} u gC else(fu ol x u k).1,(fu ol x u k).2.1,(fu ol x u k).2.2,0):=by
 rw[oQ hu (by rcases hk with e|e<;>rw[e]<;>decide)]
 have e:k7 ol x u k=({(fu ol x u k).1 with turn:=if(fu ol x u k).2.2 then(fu ol x u k).1.turn+1 else(fu ol x u k).1.turn},(fu ol x u k).2):=by
  grind[zM,nk]
 simp_all
theorem SI.Yy(h:SI ol x all log)(D:BJ t ol)(hu:x.ah[u]? =some k)(hk:k.kind=2)(E:k.drawn=true)(G:k.bR=x.turn):
 b8 ol x (u:Int)=(kj (k6 x u) (AJ ol (eU all)).1 (AJ ol (eU all)).2,{dT with kZ:=(all.length:Int),text:=(AJ ol (eU all)).2},true,0)/\SI ol (kj (k6 x u) (AJ ol (eU all)).1 (AJ ol (eU all)).2) (all++[(AJ ol (eU all)).1]) (log++(AJ ol (eU all)).2):=by
 obtain⟨I,J⟩:=h.done hu E G;have F:=h.FI;have hw:=MO D 17 F.xf (zG (F.wait D));refine⟨?_,I.pub J hw _⟩;rw[vP hu (.inr hk) E G]
 have e:fu ol x u k=(kj x (AJ ol (eU all)).1 (AJ ol (eU all)).2,{dT with kZ:=(all.length:Int),text:=(AJ ol (eU all)).2},true):=by
  unfold fu;rw[aq hk];unfold uk;rw[h.ee,h.made]
 rw[e];rfl
theorem SI.um(h:SI ol x all log)(hu:x.ah[u]? =some k)(hk:k.kind=1)(D:k.drawn=true)(E:k.bR=x.turn)(I:k.aw=0)(F:0<=k.at_)(G:k.at_≠(all.length:Int)-1):
 b8 ol x (u:Int)=(k6 x u,{dT with err:=14,kZ:=(all.length:Int)-1},true,0)/\SI ol (k6 x u) all log:=by
 refine⟨?_,(h.done hu D E).1⟩;rw[vP hu (.inl hk) D E]
 have e:fu ol x u k=(x,{dT with err:=14,kZ:=(all.length:Int)-1},true):=by
  unfold fu;rw[ay (by rw[hk];decide)];unfold rO
  have:Ch.um x k=true:=by
   unfold Ch.um;rw[h.made];simp_all
  rw[aq this];unfold ji;rw[h.made]
 rw[e];rfl
theorem SI.Yz(h:SI ol x all log)(hR:BJ t ol)(hu:x.ah[u]? =some k)(hk:k.kind=1)(G:k.drawn=true)(J:k.bR=x.turn)(hv:0<k.aw\/k.at_<0\/k.at_=(all.length:Int)-1):
 ∃s o,iO ol (eU all) k.events k.aw=some (s,o)/\k.aw<k.events.size/\
 ((iO ol (eU all) k.events (k.aw+1)=none/\(b_ ol s (ag k.events k.aw)).2.2≠0/\b8 ol x (u:Int)=(k6 x u,{dT with err:=9,kZ:=(all.length:Int)-1,idx:=(k.aw:Int)},true,0)/\SI ol (k6 x u) all log)\/
  (∃s' D,iO ol (eU all) k.events (k.aw+1)=some (s',D)/\k.aw+1<k.events.size/\b8 ol x (u:Int)=(aA x u {k with aw:=k.aw+1,now:=s',out:=D},dT,false,0)/\SI ol (aA x u {k with aw:=k.aw+1,now:=s',out:=D}) all log)\/
  (∃s' D,iO ol (eU all) k.events (k.aw+1)=some (s',D)/\k.aw+1=k.events.size/\b8 ol x (u:Int)=(kj (k6 x u) s' D,{dT with kZ:=(all.length:Int),idx:=(k.events.size:Int),text:=D},true,0)/\SI ol (kj (k6 x u) s' D) (all++[s']) (log++D))):=by
 have E:=h.tk u k hu;have hq:=tU (E.rq (by rw[hk];decide)) hk;have iG:1<=k.events.size:=hq.1
 have Y:k.aw<k.events.size:=by
  rcases jH k.aw with e|e
  ·omega
  exact(E.wk e).2.2.2.1
 have hg:=h.FI
 --how far it has come
 obtain⟨s,o,I,hT⟩:∃s o,iO ol (eU all) k.events k.aw=some (s,o)/\ph x k={k with now:=s,out:=o}:=by
  rcases jH k.aw with e|e
  ·refine⟨eU all,⟨#[]⟩,by rw[e];rfl,?_⟩
   unfold ph;rw[aq e,h.ee,<-E.C8 e]
  refine⟨k.now,k.out,(E.wk e).2.2.2.2.2,?_⟩;unfold ph;rw[ay (by omega)]
 have aa:Ch.um x k=false:=by
  unfold Ch.um;rw[h.made]
  grind
 have X:=tn hR hg _ _ I
 have hM:fu ol x u k=s_ ol x u {k with now:=s,out:=o}:=by
  grind[fu,rO]
 refine⟨s,o,I,Y,?_⟩
 have hF:eT ol {k with now:=s,out:=o}=if(b_ ol s (ag k.events k.aw)).2.2 !=0 then({k with now:=s,out:=o},(b_ ol s (ag k.events k.aw)).2.2)else({k with aw:=k.aw+1,now:=(b_ ol s (ag k.events k.aw)).1,out:=o++(b_ ol s (ag k.events k.aw)).2.1},0):=by
  grind[eT]
 have F:iO ol (eU all) k.events (k.aw+1)=if(b_ ol s (ag k.events k.aw)).2.2==0 then some ((b_ ol s (ag k.events k.aw)).1,o++(b_ ol s (ag k.events k.aw)).2.1)else none:=by
  grind[iO]
 by_cases q:(b_ ol s (ag k.events k.aw)).2.2=0
 ·rw[ay (by simp[q])]at hF
  rw[aq (by simp[q])]at F;have U:=BK hR X q;generalize (b_ ol s (ag k.events k.aw)).1=s' at*;generalize o++(b_ ol s (ag k.events k.aw)).2.1=D at*
  right
  by_cases c:k.aw+1<k.events.size
  ·left
   refine⟨s',D,F,c,?_,?_⟩
   ·grind[s_,aA,dT,vP]
   refine h.set hu (λm=>by rw[tT (by rw[hk];decide),tT (by show k.kind≠3;rw[hk];decide)]) ?_ rfl (λ_=>rfl);refine⟨λe=>absurd (show k.kind=0 from e) (by rw[hk];decide),E.rq,E.dr,E.st,E.Yx,E.S8,λe=>absurd (show k.aw+1=0 from e) (by omega),λ_=>⟨hk,G,J,c,?_,F⟩⟩
   rcases jH k.aw with e|e
   ·simp_all
   exact(E.wk e).2.2.2.2.1
  right
  have Z:k.aw+1=k.events.size:=by omega
  obtain⟨hD,hf⟩:=h.done hu G J;refine⟨s',D,F,Z,?_,hD.pub hf U _⟩
  have O:s_ ol x u {k with now:=s,out:=o}=(kj (aA x u {k with aw:=k.aw+1,now:=s',out:=D}) s' D,{dT with kZ:=(x.made:Int),idx:=((k.aw+1:Nat):Int),text:=D},true):=by
   grind[s_]
  rw[vP hu (.inl hk) G J,hM,O];simp only[aV]
  have e1:aA {kj (aA x u {k with aw:=k.aw+1,now:=s',out:=D}) s' D with turn:=(kj (aA x u {k with aw:=k.aw+1,now:=s',out:=D}) s' D).turn+1} u gC=kj (k6 x u) s' D:=by
   simp[kj,aA,k6,List.set_set]
  rw[e1,h.made,<-Z]
 rw[aq (by simpa using q)]at hF;rw[ay (by simpa using q)]at F
 left
 have h9:(b_ ol s (ag k.events k.aw)).2.2=9:=by
  grind[MN,ag]
 refine⟨F,q,?_,(h.done hu G J).1⟩
 have O:s_ ol x u {k with now:=s,out:=o}=(aA x u {k with now:=s,out:=o},{ji x 9 with idx:=(k.aw:Int)},true):=by
  grind[s_]
 rw[vP hu (.inl hk) G J,hM,O];simp only[aV]
 have e1:aA {aA x u {k with now:=s,out:=o}with turn:=(aA x u {k with now:=s,out:=o}).turn+1} u gC=k6 x u:=by
  simp[aA,k6,List.set_set]
 rw[e1];unfold ji;rw[h.made]
end
theorem M_{r:Rq}(h:mJ r=true)(hk:r.kind=3): -1<=r.at_:=by
 grind[mJ]
section
variable {t:ByteArray} {ol:Ol} {x:Sv} {all:List Sd} {log:ByteArray} {u:Nat} {k:Tk}
theorem SI.IP(h:SI ol x all log)(hu:x.ah[u]? =some k)(hk:k.kind=3\/k.kind=4):k.drawn=false:=by
 cases q:k.drawn with
 |false=>rfl
 |true=>?_
 have:=((h.tk u k hu).dr q).1
 omega
theorem SI.IQ(h:SI ol x all log)(hu:x.ah[u]? =some k)(hk:k.kind≠1):k.aw=0:=by
 rcases jH k.aw with e|e
 ·omega
 exact absurd ((h.tk u k hu).wk e).1 hk
theorem SI.YA(h:SI ol x all log){k':Tk}(hu:x.ah[u]? =some k)(Z:VX ol all x.turn x.aU k')(hd:k.drawn=false)(X:k'.drawn=false):SI ol {x with kept:=dD all (x.ah.set u k'),ah:=x.ah.set u k'} all log:=by
 refine⟨h.made,h.pos,rfl,h.FG,h.joined,h.tail,by simpa using h.len,?_,?_,?_,h.le⟩
 ·intro i a E
  rcases iI E with⟨_,rfl⟩|⟨_,E⟩
  ·omega
  exact h.tk i a E
 ·intro i j ti tj hi Y D J e
  rcases iI hi with⟨rfl,rfl⟩|⟨ni,F⟩
  ·simp_all
  rcases iI Y with⟨rfl,rfl⟩|⟨nj,I⟩
  ·simp_all
  exact h.C_ _ _ _ _ F I D J e
 intro m O U;obtain⟨i,a,hi,D,e⟩:=h.Wx m O U
 have G:i≠u:=by
  grind
 exact⟨i,a,by simp only;rw[ku (λx=>G x.symm)];exact hi,D,e⟩
theorem SI.YB(h:SI ol x all log)(hu:x.ah[u]? =some k)(hk:k.kind=3)(hs:k.steps=0):
 ((all.length:Int)-1<k.at_/\b8 ol x (u:Int)=(aA x u gC,{dT with err:=14,kZ:=(all.length:Int)-1},true,0)/\SI ol (aA x u gC) all log)\/
 (0<=k.at_/\k.at_<=(all.length:Int)-5/\b8 ol x (u:Int)=(aA x u gC,{dT with err:=15,kZ:=(all.length:Int)-1},true,0)/\SI ol (aA x u gC) all log/\dB all.length x.ah k.at_.toNat=false)\/
 (∃n:Nat,n<all.length/\(0<=k.at_->(n:Int)=k.at_)/\(k.at_<0->(n:Int)=(all.length:Int)-1)/\
  b8 ol x (u:Int)=({x with kept:=dD all (x.ah.set u {k with steps:=1,pinned:=(n:Int)}),ah:=x.ah.set u {k with steps:=1,pinned:=(n:Int)}},dT,false,0)/\
  SI ol {x with kept:=dD all (x.ah.set u {k with steps:=1,pinned:=(n:Int)}),ah:=x.ah.set u {k with steps:=1,pinned:=(n:Int)}} all log/\dB all.length x.ah n=true):=by
 have J:=h.tk u k hu;have O:=M_ (J.rq (by rw[hk];decide)) hk;have Y: -1<=k.at_:=O;have Z:=h.pos;have lG:=h.IP hu (.inl hk);have G:=h.end_ hu (uQ hs) lG
 have X:m_ ol x u k=mZ (aA x u (cD k)) u (cD k):=by unfold m_;rw[aq hs]
 have xh:mZ (aA x u (cD k)) u (cD k)=if((x.made:Int)-1<if k.at_<0 then(x.made:Int)-1 else k.at_)then(aA x u (cD k),{dT with err:=14,kZ:=(x.made:Int)-1},true)
  else if(qH x.kept (if k.at_<0 then(x.made:Int)-1 else k.at_)).2 then({aA x u (cD k)with kept:=(qH x.kept (if k.at_<0 then(x.made:Int)-1 else k.at_)).1,ah:=(x.ah.set u (cD k)).set u {cD k with pinned:=if k.at_<0 then(x.made:Int)-1 else k.at_}},dT,false)
  else(aA x u (cD k),{dT with err:=15,kZ:=(x.made:Int)-1},true):=rfl
 have dE:b8 ol x (u:Int)=(if(mZ (aA x u (cD k)) u (cD k)).2.2 then aA (mZ (aA x u (cD k)) u (cD k)).1 u gC else(mZ (aA x u (cD k)) u (cD k)).1,(mZ (aA x u (cD k)) u (cD k)).2.1,(mZ (aA x u (cD k)) u (cD k)).2.2,0):=by
  rw[oQ hu (by rw[hk];decide),zN hk,X]
 rw[xh,h.made]at dE;have e2:aA (aA x u (cD k)) u gC=_:=lB x u _ _
 by_cases q1:(all.length:Int)-1<if k.at_<0 then(all.length:Int)-1 else k.at_
 ·grind
 right
 rw[ay q1]at dE
 obtain⟨n,E⟩:∃n:Nat,(if k.at_<0 then(all.length:Int)-1 else k.at_)=(n:Int):=⟨(if k.at_<0 then(all.length:Int)-1 else k.at_).toNat,by split<;>omega⟩
 rw[E]at dE q1
 have I:n<all.length:=by omega
 cases D:dB all.length x.ah n with
 |true=>
  right
  have S1:=IK (t':={k with steps:=1,pinned:=(n:Int)}) hu I D (uQ hs) (λm=>by
   unfold iB;simp only[hk,decide_true,gA,aC];rw[decide_eq_decide]
   constructor<;>intro e<;>omega)
  rw[h.kept,S1]at dE;refine⟨n,I,λe=>by rw[ay (by omega)]at E;exact E.symm,λe=>by rw[aq e]at E;exact E.symm,?_,h.YA hu ?_ lG lG,D⟩
  ·rw[dE]
   simp only[aV,bp,bj]
   have e3:(x.ah.set u (cD k)).set u {cD k with pinned:=(n:Int)}=x.ah.set u {k with steps:=1,pinned:=(n:Int)}:=by
    rw[List.set_set];grind[cD]
   rw[e3];rfl
  refine⟨λe=>absurd (show k.kind=0 from e) (by rw[hk];decide),J.rq,λd=>absurd (show k.drawn=true from d) (by rw[lG];decide),by show 1<=2;omega,λe=>absurd (show k.kind=3 from hk) e,λ_ _=>⟨by show 0<=(n:Int);omega,by show(n:Int)<_;omega,λe=>?_⟩,J.C8,λe=>absurd (show 0<k.aw from e) (by rw[h.IQ hu (by rw[hk];decide)];decide)⟩;grind
 |false=>?_
 left
 have aa:¬all.length<=n+4:=by
  intro e;unfold dB at D;rw[gz e,Bool.or_true]at D
  cases D
 have U:0<=k.at_:=by
  rcases Int.lt_or_le k.at_ 0 with e|e
  ·rw[aq e]at E;omega
  exact e
 rw[ay (by omega)]at E
 have F:qH x.kept (n:Int)=(x.kept,false):=BO (λv hv e=>by
  rw[h.kept]at hv;obtain⟨m,_,h2,rfl⟩:=uO.1 hv
  have:m=n:=by have e':((m:Nat):Int)=(n:Int):=e;omega
  subst this
  rw[h2]at D;cases D)
 rw[F]at dE;refine⟨U,by omega,?_,G,by rw[E];exact D⟩;simp only[bp,bj,aV,e2]at dE;exact dE
theorem SI.YC(h:SI ol x all log)(hu:x.ah[u]? =some k)(hk:k.kind=3)(hs:k.steps=1):b8 ol x (u:Int)=(aA x u {k with steps:=2},dT,false,0)/\SI ol (aA x u {k with steps:=2}) all log:=by
 have D:=h.tk u k hu;have lG:=h.IP hu (.inl hk)
 have he:cD k={k with steps:=2}:=by unfold cD;rw[hs]
 refine⟨?_,h.set hu (λm=>by unfold iB;simp only[hs];rfl) ?_ rfl (λ_=>rfl)⟩
 ·have E:m_ ol x u k=(aA x u {k with steps:=2},dT,false):=by
   grind[m_]
  rw[oQ hu (by rw[hk];decide),zN hk,E];rfl
 exact⟨λe=>absurd (show k.kind=0 from e) (by rw[hk];decide),D.rq,D.dr,by show 2<=2;omega,λe=>absurd (show k.kind=3 from hk) e,λ_ _=>D.S8 hk (by omega),D.C8,λe=>absurd (show 0<k.aw from e) (by rw[h.IQ hu (by rw[hk];decide)];decide)⟩
theorem SI.YD(h:SI ol x all log)(hu:x.ah[u]? =some k)(hk:k.kind=3)(hs:k.steps=2):
 ∃n:Nat,k.pinned=(n:Int)/\n<all.length/\b8 ol x (u:Int)=({x with kept:=dD all (x.ah.set u gC),ah:=x.ah.set u gC},{dT with kZ:=(n:Int),st:=bV ol.ai (all.getD n wS)},true,0)/\
  SI ol {x with kept:=dD all (x.ah.set u gC),ah:=x.ah.set u gC} all log:=by
 have F:=h.tk u k hu;have lG:=h.IP hu (.inl hk);obtain⟨O,U,_⟩:=F.S8 hk (by omega)
 obtain⟨n,E⟩:∃n:Nat,k.pinned=(n:Int):=⟨k.pinned.toNat,by omega⟩
 have D:n<all.length:=by omega
 obtain⟨I,J⟩:=IL (t':=gC) hu D (λm=>by
  unfold iB;simp only[hk,hs,E,decide_true,gA,show(1:Nat)<=2 from by omega];rw[decide_eq_decide]
  constructor<;>intro e<;>omega) th
 refine⟨n,E,D,?_,h.YA hu (JT _ _ _ _) lG rfl⟩
 have G:m_ ol x u k=({aA x u (cD k)with kept:=dD all (x.ah.set u gC)},{dT with kZ:=(n:Int),st:=bV ol.ai (all.getD n wS)},true):=by
  unfold m_;rw[ay (by omega),ay (by omega),E,h.made,h.kept,I,J]
 simp_all[oQ,zN,aA]
end
structure Ln where
 all:List As
 log:ByteArray
 stands:List Bool
 asked:List Rq
 rB:List Int
 steps:List Int
end Ch
def Na(a:As):List Value:=[.string a.act,.string a.cd,.string a.tm,.int .i64 a.x,.int .i64 a.y,.int .i64 a.z]
theorem S_(a:As):(Na a).length=6:=rfl
def Db(l:List As):List Value:=l.flatMap Na
def rqL(r:Rq):List Value:=[.int .i64 r.kind,.string r.events,.int .i64 r.at_]
def Ta(l:List Rq):List Value:=l.flatMap rqL
def Tb(l:List Bool):List Value:=l.map Value.bool
structure Lp where
 wb:Nat
 sb:Nat
 qb:Nat
 lb:Nat
 pb:Nat
def lnA(p:Lp)(t:ByteArray)(L:Ln)(av:Value):Array Value:=
 #[.string t,av,.string L.log,.slice (some ⟨p.sb,0,none⟩) L.stands.length L.stands.length,.slice (some ⟨p.qb,0,none⟩) L.asked.length L.asked.length,.slice (some ⟨p.lb,0,none⟩) L.rB.length L.rB.length,.slice (some ⟨p.pb,0,none⟩) L.steps.length L.steps.length]
structure uR(w:World)(p:Lp)(t:ByteArray)(L:Ln)(av:Value):Prop where
 bO:w.heap[p.wb]? =some (.cells (lnA p t L av) 71 (0,0))
 row:w.ownsRow 0 26 6 av L.all.length (Db L.all)
 Wy:w.heap[p.sb]? =some (.cells (Tb L.stands).toArray 4 (0,0))
 ask:w.heap[p.qb]? =some (.cells (Ta L.asked).toArray 79 (0,0))
 Wz:w.heap[p.lb]? =some (.cells (bI L.rB).toArray 3 (0,0))
 Ul:w.heap[p.pb]? =some (.cells (bI L.steps).toArray 3 (0,0))
 ne:p.lb≠p.pb
def V1(p:Lp)(av:Value)(k:Nat):Prop:=k=p.wb\/k=p.sb\/k=p.qb\/k=p.lb\/k=p.pb\/av.ownBlock=some k
def QN(w w':World)(p:Lp)(t:ByteArray)(av:Value)(L:Ln):Prop:=
 ∃D,uR w' p t L D/\(∀k,D.ownBlock=some k->av.ownBlock=some k\/w.heap.size<=k)/\Kp (V1 p av) w w'
def WA(e:TypeId):Prop:=e=71\/e=26\/e=4\/e=79\/e=3
section
variable {w w':World} {p:Lp} {t:ByteArray} {L:Ln} {av:Value}
theorem uR.az{S:Nat->Prop}(h:uR w p t L av)(K:Kp S w w')(hs:∀k,V1 p av k->¬S k):uR w' p t L av:=
 ⟨K.at_ h.bO (hs _ (.inl rfl)),K.owns h.row (λk e=>hs k (.inr (.inr (.inr (.inr (.inr e)))))),K.at_ h.Wy (hs _ (.inr (.inl rfl))),K.at_ h.ask (hs _ (.inr (.inr (.inl rfl)))),K.at_ h.Wz (hs _ (.inr (.inr (.inr (.inl rfl))))),K.at_ h.Ul (hs _ (.inr (.inr (.inr (.inr (.inl rfl)))))),h.ne⟩
theorem uR.au(h:uR w p t L av)(K:Kp (λ_=>False) w w'):uR w' p t L av:=h.az K (λ_ _ x=>x)
theorem uR.low(h:uR w p t L av):∀k,V1 p av k->k<w.heap.size:=by
 rintro k (rfl|rfl|rfl|rfl|rfl|e)
 ·exact aR h.bO
 ·exact aR h.Wy
 ·exact aR h.ask
 ·exact aR h.Wz
 ·exact aR h.Ul
 obtain⟨D,E⟩:=bz h.row e;grind
theorem uR.type(h:uR w p t L av){k:Nat}(hk:V1 p av k):∃c e,w.heap[k]? =some (.cells c e (0,0))/\WA e:=by
 rcases hk with rfl|rfl|rfl|rfl|rfl|e
 ·exact⟨_,_,h.bO,.inl rfl⟩
 ·exact⟨_,_,h.Wy,.inr (.inr (.inl rfl))⟩
 ·exact⟨_,_,h.ask,.inr (.inr (.inr (.inl rfl)))⟩
 ·exact⟨_,_,h.Wz,.inr (.inr (.inr (.inr rfl)))⟩
 ·exact⟨_,_,h.Ul,.inr (.inr (.inr (.inr rfl)))⟩
 obtain⟨D,E⟩:=bz h.row e;exact⟨_,_,E,.inr (.inl rfl)⟩
theorem uR.other(h:uR w p t L av){b:Nat}{c:Array Value}{e:TypeId}(hb:w.heap[b]? =some (.cells c e (0,0)))(he:¬WA e):¬V1 p av b:=by
 intro hk;obtain⟨D,E,F,G⟩:=h.type hk;simp_all
theorem uR.cell(h:uR w p t L av)(j:Nat):w.cell? ⟨p.wb,j,none⟩=(lnA p t L av)[j]?:=by rw[World.cell?,h.bO];rfl
theorem uR.free(h:uR w p t L av)(j:Nat):w.frozen? ⟨p.wb,j,none⟩=false:=by simp[World.frozen?,h.bO]
theorem uR.rowAt(h:uR w p t L av)(D:0<L.all.length):∃g cap,av= .slice (some ⟨g,0,none⟩) L.all.length cap:=by
 rcases h.row.2 with⟨_,e2⟩|⟨g,cap,_,e1,_⟩
 ·omega
 simp_all
theorem QN.refl(h:uR w p t L av):QN w w p t av L:=⟨av,h,λ_ e=>.inl e,Kp.refl _ _⟩
theorem QN.of(h:uR w' p t L av)(K:Kp (V1 p av) w w'):QN w w' p t av L:=⟨av,h,λ_ e=>.inl e,K⟩
theorem QN.trans{w'':World}{L':Ln}{F:Value}(K:Kp (V1 p av) w w')(hk:∀k,F.ownBlock=some k->av.ownBlock=some k\/w.heap.size<=k)(q:QN w' w'' p t F L'):QN w w'' p t av L':=by
 obtain⟨D,I,J,G⟩:=q;refine⟨D,I,?_,K.trans' G ?_⟩
 ·intro k e
  rcases J k e with E|E
  ·simp_all
  exact .inr (bA K.size E)
 intro i hi s
 rcases s with s|s|s|s|s|s
 ·exact .inl s
 ·exact .inr (.inl s)
 ·exact .inr (.inr (.inl s))
 ·exact .inr (.inr (.inr (.inl s)))
 ·exact .inr (.inr (.inr (.inr (.inl s))))
 rcases hk i s with e|e
 ·exact .inr (.inr (.inr (.inr (.inr e))))
 omega
theorem QN.au{w'':World}{L':Ln}(q:QN w w' p t av L')(K:Kp (λ_=>False) w' w''):QN w w'' p t av L':=by
 obtain⟨G,E,F,D⟩:=q;exact⟨G,E.au K,F,D.trans' K (λ_ _ x=>x.elim)⟩
end
theorem Tc{w:World}{xb tb:Nat}{pc:Pc}{ol:Ol}{x:Sv}{kv:Value}(h:eX w xb tb 138 pc ol x kv){k:Nat}(hk:xo xb tb kv k):∃c e,w.heap[k]? =some (.cells c e (0,0))/\¬WA e:=by
 rcases hk with rfl|rfl|e
 ·exact⟨_,_,h.bO,by unfold WA;decide⟩
 ·exact⟨_,_,h.rN,by unfold WA;decide⟩
 obtain⟨D,E⟩:=bz h.row e;grind[WA]
theorem uR.PZ{w w':World}{p:Lp}{t:ByteArray}{L:Ln}{av:Value}{xb tb:Nat}{pc:Pc}{ol:Ol}{x:Sv}{kv:Value}(l:uR w p t L av)(h:eX w xb tb 138 pc ol x kv)(K:Kp (xo xb tb kv) w w'):uR w' p t L av:=by
 refine l.az K ?_;intro k hk hs;obtain⟨c,e,D,E⟩:=Tc h hs;exact l.other D E hk
theorem Qf:(prog.info? 26).map (λi=>(i.zero,i.size,i.bytes))=some (some (.agg ig),6,72):=by kernel_rfl
theorem Nb{P:Program}{o:Oper}{a:Act}{w:World}{K:Act->World->Prop}{Q:Exit->Act->World->Prop}(s x:Operand)(t:TypeId)(U:o.op=Op.call {callee:=Callee.builtin Builtin.append,args:=#[s,x],argTypes:=#[t,t]})
 (base:Nat) (e:TypeId) (i:TypeInfo) (z:Value) (size bytes:Nat) (Z:P.underlying t=some (.slice e)) (h2:P.info? e=some i) (h3:i.zero=some z) (h4:i.size=size) (h5:i.bytes=bytes) (h6:z.cells.size=size) (h7:0<size)
 (v:Value) (n:Nat) (xs:List Value) (hs:a.eval s=v) (F:w.ownsRow base e size v n xs)
 (I:Addr) (m c:Nat) (D:List Value) (hx:a.eval x= .slice (some I) m c) (hn:D.length=m*size) (hc:∀j u,D[j]? =some u->w.cell? (I.add j)=some u) (J:∀u∈D,u.oneCell'=true)
 (O:0<m) (X:n+m<=maxLen) (Y:(n+m)*bytes<=140737488355328) (E:base<=w.heap.size)
 (hK:∀g cap w',w'.ownsRow base e size (.slice (some ⟨g,0,none⟩) (n+m) cap) (n+m) (xs++D)->w.grownBy w' v.ownBlock->(v.ownBlock=some g\/w.heap.size<=g)->K (a.put o.dst (.slice (some ⟨g,0,none⟩) (n+m) cap)) w'):o.wp P a w K Q:=by
 obtain⟨g,cap,w',G,r1,r2,r3⟩:=dV (P:=P) w base t o.type e i z size bytes Z h2 h3 h4 h5 h6 h7 v n xs F I m c D hn hc J O X Y E;unfold Oper.wp;simp[execOp,U,resolve,invoke,builtin,hs,hx,G,Result.andThen];exact hK g cap w' r1 r2 r3
section
variable {w w8:World} {p:Lp} {t:ByteArray} {L:Ln} {av WB:Value}
theorem uR.neW(h:uR w p t L av):p.sb≠p.wb/\p.qb≠p.wb/\p.lb≠p.wb/\p.pb≠p.wb:=by
 have f:∀{b:Nat} {c:Array Value} {e:TypeId},w.heap[b]? =some (.cells c e (0,0))->e≠71->b≠p.wb:=by
  intro b c e hb he x;rw[x,h.bO]at hb;simp_all
 exact⟨f h.Wy (by decide),f h.ask (by decide),f h.Wz (by decide),f h.Ul (by decide)⟩
theorem uR.snoc(h:uR w p t L av){b:As}(D:Kp (λk=>av.ownBlock=some k) w w8)(G:w8.ownsRow 0 26 6 WB (L.all.length+1) (Db L.all++Na b)):uR (w8.setCell ⟨p.wb,1,none⟩ WB) p t {L with all:=L.all++[b]} WB:=by
 have I:=D.at_ h.bO (aZ h.row h.bO (by decide));have E:Kp _ _ (w8.setCell ⟨p.wb,1,none⟩ WB):=(Kp.refl (λk=>k=p.wb) w8).setCell (p:=⟨p.wb,1,none⟩) (λ_=>rfl) _;have F:=aZ G I (by decide);obtain⟨J,O,U,X⟩:=h.neW;refine⟨?_,?_,E.at_ (D.at_ h.Wy (aZ h.row h.Wy (by decide))) J,E.at_ (D.at_ h.ask (aZ h.row h.ask (by decide))) O,E.at_ (D.at_ h.Wz (aZ h.row h.Wz (by decide))) U,E.at_ (D.at_ h.Ul (aZ h.row h.Ul (by decide))) X,h.ne⟩
 ·rw[ak _ I];rfl
 have:=E.owns G (λk e x=>F (by rw[<-x];exact e));grind[Db,Na]
theorem uR.at_(h:uR w p t L av){g cap:Nat}(e:av= .slice (some ⟨g,0,none⟩) L.all.length cap){k:Nat}{a:As}(hk:L.all[k]? =some a):∀j u,(Na a)[j]? =some u->w.cell? ⟨g,k*6+j,none⟩=some u:=by
 intro j u E;have F:=h.row;rw[e]at F;have I:=(aJ.1 hk).1;have D:j<6:=(aJ.1 E).1;have G:=F.cellAt (k*6+j) (by omega);rw[G];exact(jh Na 6 L.all k a j (λa _=>S_ a) hk D).trans E
end
namespace Ch
def rdB(L:Ln)(i:Nat):Bool:=L.stands.getD i false&&decide ((L.asked.getD i ⟨0,⟨#[]⟩,0⟩).kind=3)&&decide (0<L.steps.getD i 0)
def rdN(L:Ln):Nat->Nat
 |0=>0
 |i+1=>rdN L i+(if rdB L i then 1 else 0)
structure adn(L:Ln)(N:List Nat):Prop where
 pos:0<L.all.length
 lo:L.all.length-(L.all.length-4)<=N.length
 hi:N.length<=(L.all.length-(L.all.length-4))+rdN L L.stands.length
 lt:∀k∈N,k<L.all.length
 af_:N.Pairwise (· < ·)
 at_:N[N.length-(L.all.length-(L.all.length-4))]? =some (L.all.length-4)
 la:L.asked.length=L.stands.length
 ls:L.steps.length=L.stands.length
 l6:L.stands.length<=6
def Un(s:As)(o:ByteArray)(n:Nat):Ln:=⟨[s],o,List.replicate n false,List.replicate n ⟨0,⟨#[]⟩,0⟩,List.replicate n 0,List.replicate n 0⟩
