import Derived.Test.YtnlbchmfcebeeaaGreatTY1
set_option maxHeartbeats 12800000
set_option maxRecDepth 100000
namespace Go.Proofs.YtnlbchmfcebeeaaGreat
open Go.Proofs.Tryz Ch
open Go.RowKit
namespace Ch
theorem XL{t:ByteArray}(h:(read t).1=0):(judge (chart t).2.ag (chart t).2.uses).1=0/\(read t).2.2.ag=(chart t).2.ag:=by
 unfold read at h⊢
 split at h
 ·cases h
 rename_i c0;rw[if_neg c0]
 split at h
 ·rename_i c1
  rw[if_pos c1]
  split at h
  ·rename_i c2
   rw[if_pos c2];exact⟨by simpa using c2,rfl⟩
  rename_i c2;simp only at h;rw[h]at c2;simp at c2
 cases h
theorem Le{L:List RN}{a p tm:ByteArray}{x y z:Int}(h:gf L a=none):nR L a p tm x y z=false:=by unfold nR;rw[h]
theorem Lf{L:List RN}{a p tm:ByteArray}{x y z:Int}{on:List Bool}(h:gf L a=some on):nR L a p tm x y z=((List.range L.length).all (oK L on)&&(zL L p&&pZ tm&&jU x&&jU y&&jU z)):=by unfold nR;rw[h]
theorem adP{n k:Nat}{p:Nat->Bool}(hk:k<n)(h:p k=false):(List.range n).all p=false:=by
 rw[List.all_eq_false];exact⟨k,by simpa using hk,by simp[h]⟩
theorem aaN{n:Nat}{p:Nat->Bool}(h:∀k,k<n->p k=true):(List.range n).all p=true:=by
 rw[List.all_eq_true];intro k hk;exact h k (by simpa using hk)
end Ch
section
variable (w:World) (B cb:Nat)
theorem tT(l:List NV)(v:Value)(a:As)(hF:iG w B cb l v)(hl:l.length<=1000)(ha:a.Sm)(hpw:∀(i:Nat) (x:NV),l[i]? =some x-> -1<=x.n.parent/\x.n.parent<i):
 Calls prog 144 #[.pointer (some ⟨cb,0,none⟩),.agg (aN a)] w λx w'=>x= .returned (.bool (nR (Ch.mk l) a.act a.past a.tm a.x a.y a.z))/\Kp (λ_=>False) w w':=by
 obtain⟨sa,sp,st⟩:=ha;have hb1:=heap_alloc_new w (.cells (aN a) 26);have K1:Kp (λ_=>False) w (w.alloc (.cells (aN a) 26)):=(Kp.refl _ _).alloc _;have hF1:=hF.ai K1;obtain⟨ao,cap,rfl⟩:=hF.2.1.len;have E0:=hid (za _ B cb l _ a.act hF1 hl (by unfold maxLen;omega))
 go_enter func144,ntmps144
 go_upto_region 1 with(fail)
 generalize w.alloc (.cells (aN a) 26)=w1 at*;generalize w.heap.size=ob at*
 have c0:w1.cell? ⟨ob,0,none⟩=some (.string a.act):=by rw[World.cell?,hb1];rfl
 go_wp2_with fail
 refine hm E0 ?_;rintro x w2 ⟨u,rfl,K2,hon⟩
 cases hsp:gf (Ch.mk l) a.act with
 |none=>
  have HR:=hid (Le (p:=a.past) (tm:=a.tm) (x:=a.x) (y:=a.y) (z:=a.z) hsp);clear hon;simp only[Option.isSome_none];go_wp2;go_ret;rw[HR.out];exact⟨rfl,K1.trans K2⟩
 |some on=>?_
 have HR:=hid (Lf (p:=a.past) (tm:=a.tm) (x:=a.x) (y:=a.y) (z:=a.z) hsp);obtain⟨rfl,hon,hol⟩:=hon on hsp;simp only[Option.isSome_some];have agA:=K2.at_ hb1 (λx=>x);have hF2:=hF1.ai K2;have Vi:=K1.trans K2;have HQ:=hid (ae hF2 (ae agA (ae hon Vi)));clear hF2 agA hon Vi K1 K2 hF1 hb1 hF E0 c0;have J_:=cP l
 go_wp2_with fail
 go_loopw [7] (λiv wr=>∃i:Nat,iv= .int .i64 i/\i<=l.length/\Hid (∀j,j<i->oK (Ch.mk l) on j=true)/\Kp (λ_=>False) w2 wr) (λiv _=>l.length-(intOf iv).toNat)
 case atStart=>exact⟨0,rfl,Nat.zero_le _,hid (λj h=>absurd h (by omega)),Kp.refl _ _⟩
 case round=>
  obtain⟨i,rfl,hi,HB,KW⟩:=hrel;have ey:=HQ.out.1.ai KW;have zc:=ey.cell;have iI:iH wr w1.heap.size on:=KW.at_ HQ.out.2.2.1 (λx=>x)
  by_cases hlt:i<l.length
  ·have hlt':(i:Int)<(l.length:Int):=by omega
   have E:=hid (TH wr B cb l _ i _ on ey hl iI hol hlt (λx hx=>hpw i x hx))
   have Ft:=hid (λ(h:oK (Ch.mk l) on i=true)=>show∀j,j<i+1->oK (Ch.mk l) on j=true from λj hj=>by
    rcases Nat.lt_or_eq_of_le (Nat.le_of_lt_succ hj)with h'|h'
    ·exact HB.out j h'
    subst h';exact h)
   have Dc:=hid KW;clear ey iI KW
   cases q:oK (Ch.mk l) on i with
   |false=>
    rw[q]at E;have HR2:=hid (HR.out.trans (by rw[adP (by omega) q,Bool.false_and]))
    go_wp2_with fail
    refine hm E ?_;rintro y w3 ⟨rfl,K3⟩;go_wp2;go_ret;rw[HR2.out];exact⟨rfl,HQ.out.2.2.2.trans (Dc.out.trans K3)⟩
   |true=>?_
   rw[q]at E
   go_wp2_with fail
   refine hm E ?_;rintro y w3 ⟨rfl,K3⟩;go_wp2
   go_roundw
   case rel=>exact⟨i+1,by go_num,by omega,hid (Ft.out q),Dc.out.trans K3⟩
   case measure=>simp[intOf];omega
  have hge:¬(i:Int)<(l.length:Int):=by omega
  obtain rfl:i=l.length:=by omega
  have hRR:=HR.out;rw[J_,aaN HB.out,Bool.true_and]at hRR;have adQ:=KW.at_ HQ.out.2.1 (λx=>x)
  have c1:wr.cell? ⟨ob,1,none⟩=some (.string a.past):=by rw[World.cell?,adQ];rfl
  have E1:=hid (zN wr B cb l _ a.past ey hl sp);have HX:=hid (ae hRR (ae adQ (HQ.out.2.2.2.trans KW)));clear hRR adQ KW HR HB HQ ey iI
  go_wp2_with fail
  refine hm E1 ?_;rintro y w3 ⟨rfl,K3⟩;have XM:=K3.at_ HX.out.2.1 (λx=>x)
  have c2:w3.cell? ⟨ob,2,none⟩=some (.string a.tm):=by rw[World.cell?,XM];rfl
  have c3:w3.cell? ⟨ob,3,none⟩=some (.int .i64 a.x):=by rw[World.cell?,XM];rfl
  have c4:w3.cell? ⟨ob,4,none⟩=some (.int .i64 a.y):=by rw[World.cell?,XM];rfl
  have c5:w3.cell? ⟨ob,5,none⟩=some (.int .i64 a.z):=by rw[World.cell?,XM];rfl
  have E2:=hid (TG w3 a.tm st);have HK:=hid (HX.out.2.2.trans K3);have HR:=hid HX.out.1;clear XM K3 HX E1 c1 zc
  go_wp2_with fail
  refine hm E2 ?_;rintro y w4 ⟨rfl,e4⟩;rw[e4];clear e4 w4 E2;have E3:=hid (lz w3 a.x);have E4:=hid (lz w3 a.y);have E5:=hid (lz w3 a.z);generalize zL (Ch.mk l) a.past=b1 at*;generalize pZ a.tm=b2 at*;generalize jU a.x=b3 at*;generalize jU a.y=b4 at*;generalize jU a.z=b5 at*
  cases b1
  ·go_wp2
   go_ret;rw[HR.out];exact⟨rfl,HK.out⟩
  cases b2
  ·go_wp2
   go_ret;rw[HR.out];exact⟨rfl,HK.out⟩
  go_wp2_with fail
  refine hm E3 ?_;rintro y w4 ⟨rfl,e4⟩;rw[e4];clear e4 w4 E3
  cases b3
  ·go_wp2
   go_ret;rw[HR.out];exact⟨rfl,HK.out⟩
  go_wp2_with fail
  refine hm E4 ?_;rintro y w4 ⟨rfl,e4⟩;rw[e4];clear e4 w4 E4
  cases b4
  ·go_wp2
   go_ret;rw[HR.out];exact⟨rfl,HK.out⟩
  go_wp2_with fail
  refine hm E5 ?_;rintro y w4 ⟨rfl,e4⟩;rw[e4];clear e4 w4 E5
  cases b5<;>
  (go_wp2
   go_ret;rw[HR.out]
   exact⟨rfl,HK.out⟩)
theorem Hu{t:ByteArray}{L:List RN}(h0:(Ch.read t).1=0)(hN:NR L (Ch.chart t).2)(a:As):kP t a=if nR L a.act a.past a.tm a.x a.y a.z then 0 else 7:=by
 obtain⟨hj,e⟩:=XL h0;obtain⟨hu,h16⟩:=A9 hN hj
 have hs:(Ch.read t).2.2.ag=L.map RN.st:=by rw[e];exact hN.ag.symm
 unfold kP takeA;rw[h0,hs,Xe hN hu h16];rfl
theorem OV(t:ByteArray)(a:As)(ha:a.Sm):
 Calls prog 97 #[.string t,.agg (aN a)] w λx w'=>x= .returned (.int .i64 (kP t a))/\Kp (λ_=>False) w w':=by
 obtain⟨da,dE,bq⟩:=fN;have hb1:=heap_alloc_new w (.cells (aN a) 26);have K1:Kp (λ_=>False) w (w.alloc (.cells (aN a) 26)):=(Kp.refl _ _).alloc _;have E0:=hid (nh (w.alloc (.cells (aN a) 26)) t);have HE:=hid (λh0 L hN=>Hu (t:=t) (L:=L) h0 hN a);have XN:=hid (show(Ch.read t).1≠0->kP t a=(Ch.read t).1 from λh=>by unfold kP;rw[if_pos (by simpa using h)]);have aI:(prog.info? 26).map (·.size)=some (aN a).size:=aP;have HC:=hid (λ(w2:World) (B cb:Nat) (l:List NV) (v:Value) hF hl hpw=>tT w2 B cb l v a hF hl ha hpw);generalize hrd:Ch.read t=rd at*;generalize hla:kP t a=la at*;generalize aN a=AA at*
 go_enter func97,ntmps97
 go_upto_region 1 with(fail)
 generalize w.alloc (.cells AA 26)=w1 at*;generalize w.heap.size=ob at*
 go_wp2_with fail
 refine hm E0 ?_;rintro x w2 ⟨p,rfl,hq1,hq2,K2⟩;have hb2:=K2.at_ hb1 (λx=>x);rw[hrd]at hq1 hq2
 cases q:rd.1 !=0 with
 |true=>
  have hne:rd.1≠0:=by simpa using q
  have HR:=hid (XN.out hne);clear hq1 hq2;go_wp2;go_ret;rw[HR.out];exact⟨rfl,K1.trans K2⟩
 |false=>?_
 have he:rd.1=0:=by simpa using q
 obtain⟨cb,l,v,rfl,hF,hN,hbd,_⟩:=hq2 he;have HR:=hid (HE.out he _ hN)
 have E2:=hid (HC.out w2 w1.heap.size cb l v hF (by have:=hbd.1;omega) (λi x hx=>by
  have:=hN.wf i x.n (by unfold Ch.mk;rw[List.getElem?_map,hx];rfl)
  exact⟨this.1,this.2.1⟩))
 have HK:=hid (K1.trans K2);clear hq1 hq2 hN hbd hF HE HC XN E0 K1 K2 hb1
 go_wp2_with (refine wpList_load_row rfl 26 (.tmp 3) rfl ob rfl 26 AA (0,0) da hb2 dE (by cases da<;>first|rfl|exact absurd bq (by simp[ak])) aI ?_)
 refine hm E2 ?_;rintro y w3 ⟨rfl,K3⟩;generalize nR (Ch.mk l) a.act a.past a.tm a.x a.y a.z=lr at*
 cases lr<;>
 (go_wp2
  go_ret;rw[HR.out]
  exact⟨rfl,HK.out.trans K3⟩)
end
section
variable (w:World)
theorem OW(t:ByteArray):
 Calls prog 92 #[.string t] w λx w'=>x= .returned (.tuple #[.int .i64 (Ch.read t).1,.int .i64 (Ch.read t).2.1])/\Kp (λ_=>False) w w':=by
 have E:=hid (nh w t);generalize hr:Ch.read t=rd at*
 go_enter func92,ntmps92
 go_wp2_with fail
 refine hm E ?_;rintro x w2 ⟨p,rfl,hq⟩;have K:=hid hq.2.2;clear E hq hr;go_wp2;go_ret2;exact⟨rfl,K.out⟩
end
section
variable (w:World) (wb:Nat)
theorem CA(o:qX)(hk:o.kind=1):
 Calls prog 64 #[.pointer (some ⟨wb,0,none⟩),.agg (jR o)] w λx w'=>x= .returned (.bool true)/\Kp (λ_=>False) w w':=by
 have hb1:=heap_alloc_new w (.cells (jR o) 81);have K1:Kp (λ_=>False) w (w.alloc (.cells (jR o) 81)):=(Kp.refl _ _).alloc _
 go_enter func64,ntmps64
 go_upto_region 1 with(fail)
 generalize w.alloc (.cells (jR o) 81)=w1 at*;generalize w.heap.size=ob at*
 have c0:w1.cell? ⟨ob,0,none⟩=some (.int .i64 1):=by rw[World.cell?,hb1,<-hk];rfl
 have c1:w1.cell? ⟨ob,1,none⟩=some (.string o.t):=by rw[World.cell?,hb1];rfl
 have E1:=hid (AD w1 o.t)
 go_wp2_with fail
 refine hm E1 ?_;rintro x w2 ⟨rfl,K2⟩;have c2:=K2.bj c1;have E2:=hid (OW w2 o.t)
 go_wp2_with fail
 refine hm E2 ?_;rintro x w3 ⟨rfl,K3⟩;have E3:=hid (uL w3 (Ch.read o.t).1)
 go_wp2_with fail
 refine hm E3 ?_;rintro x w4 ⟨rfl,e4⟩;rw[e4];clear e4 w4
 go_wp2_with fail
 refine hm E3 ?_;rintro x w4 ⟨rfl,e4⟩;rw[e4];clear e4 w4;go_wp2;go_ret;exact⟨rfl,(K1.trans K2).trans K3⟩
theorem CB(o:qX)(hk:o.kind=1):
 Calls prog 39 #[.pointer (some ⟨wb,0,none⟩),.agg (jR o)] w λx w'=>x= .returned (.bool true)/\Kp (λ_=>False) w w':=by
 obtain⟨d,hd,eY⟩:=zm;have hb1:=heap_alloc_new w (.cells (jR o) 81);have K1:Kp (λ_=>False) w (w.alloc (.cells (jR o) 81)):=(Kp.refl _ _).alloc _;have E:=hid (CA (w.alloc (.cells (jR o) 81)) wb o hk)
 have hk0:(jR o)[0]? =some (.int .i64 1):=by rw[<-hk];rfl
 have hsz:=qH o;generalize jR o=OA at*
 have aI:(prog.info? 81).map (·.size)=some OA.size:=by rw[hsz];exact tR
 go_enter func39,ntmps39
 go_upto_region 1 with(fail)
 generalize w.alloc (.cells OA 81)=w1 at*;generalize w.heap.size=ob at*
 have c0:w1.cell? ⟨ob,0,none⟩=some (.int .i64 1):=by rw[World.cell?,hb1];exact hk0
 go_wp2_with (refine wpList_load_row rfl 81 (.tmp 3) rfl ob rfl 81 OA (0,0) d hb1 hd (by cases d<;>first|rfl|exact absurd eY (by simp[ak])) aI ?_)
 refine hm E ?_;rintro x w2 ⟨rfl,K2⟩;go_wp2;go_ret;exact⟨rfl,K1.trans K2⟩
theorem OX(v:Value)(ops:List qX)(hs:Mp w v ops)(hl:ops.length<=maxLen):
 Calls prog 3 #[v] w λx w'=>x= .returned (.bool true)/\Kp (λ_=>False) w w':=by
 have E:=hid (qJ w v ops 1 1 (WlZ w.heap.size) hs hl (heap_alloc_new w _)
  (λW o _ h1 h2 hW _=>(CB W w.heap.size o (by omega)).mono (λx W' ⟨hx,hk⟩=>⟨hx,hk.at_ hW (λx=>x),hk.mono (λ_ _ x=>x.elim)⟩))
  (λW hW _=>(jO W w.heap.size hW).mono (λx W' ⟨hx,hk⟩=>by subst hk;exact⟨hx,hW,Kp.refl _ _⟩))
  (λW hW _=>(jr W w.heap.size hW).mono (λx W' ⟨hx,hk⟩=>by subst hk;exact⟨hx,Kp.refl _ _⟩)))
 go_enter func3,ntmps3
 go_wp2_with fail
 refine hm E ?_;rintro x w2 ⟨rfl,K⟩;go_wp2;go_ret;exact⟨rfl,K⟩
end
theorem qX.Sm.as{o:qX}(h:o.Sm):o.s.Sm:=⟨h.act,h.past,h.tm⟩
section
variable (w:World) (wb:Nat)
theorem zQ(o:qX)(hk:o.kind=3)(hsm:o.Sm):
 Calls prog 65 #[.agg (jR o)] w λx w'=>x= .returned (.bool true)/\Kp (λ_=>False) w w':=by
 obtain⟨da,dE,bq⟩:=fN;have hb1:=heap_alloc_new w (.cells (jR o) 81);have K1:Kp (λ_=>False) w (w.alloc (.cells (jR o) 81)):=(Kp.refl _ _).alloc _;have Lg:=hsm.as
 go_enter func65,ntmps65
 go_upto_region 1 with(fail)
 generalize w.alloc (.cells (jR o) 81)=w1 at*;generalize w.heap.size=ob at*
 have c0:w1.cell? ⟨ob,0,none⟩=some (.int .i64 3):=by rw[World.cell?,hb1,<-hk];rfl
 have c1:w1.cell? ⟨ob,1,none⟩=some (.string o.t):=by rw[World.cell?,hb1];rfl
 have hsz:(prog.info? 26).map (·.size)=some (Y4 o.s).length:=aP;have cs:=ns hb1;have E1:=hid (Bq w1 o.t o.s Lg)
 go_wp2_with (refine aY rfl 26 (.tmp 32) rfl ob 3 rfl (Y4 o.s) da cs dE bq hsz ?_)
 refine hm E1 ?_;rintro x w2 ⟨rfl,K2⟩;have hb2:=K2.at_ hb1 (λx=>x)
 have d1:w2.cell? ⟨ob,1,none⟩=some (.string o.t):=by rw[World.cell?,hb2];rfl
 have ds:=ns hb2;have E2:=hid (OV w2 o.t o.s Lg);have HK:=hid (K1.trans K2);clear E1 c0 c1 cs K1 K2 hb1
 go_wp2_with (refine aY rfl 26 (.tmp 37) rfl ob 3 rfl (Y4 o.s) da ds dE bq hsz ?_)
 refine hm E2 ?_;rintro x w3 ⟨rfl,K3⟩;have E3:=hid (uL w3 (kP o.t o.s));have HK3:=hid (HK.out.trans K3);clear E2 d1 ds K3 hb2 HK
 go_wp2_with fail
 refine hm E3 ?_;rintro x w4 ⟨rfl,e4⟩;rw[e4];clear e4 w4
 go_wp2_with fail
 refine hm E3 ?_;rintro x w4 ⟨rfl,e4⟩;rw[e4];clear e4 w4;go_wp2;go_ret;exact⟨rfl,HK3.out⟩
theorem CC(o:qX)(hk:o.kind=3)(hsm:o.Sm):
 Calls prog 39 #[.pointer (some ⟨wb,0,none⟩),.agg (jR o)] w λx w'=>x= .returned (.bool true)/\Kp (λ_=>False) w w':=by
 obtain⟨d,hd,eY⟩:=zm;have hb1:=heap_alloc_new w (.cells (jR o) 81);have K1:Kp (λ_=>False) w (w.alloc (.cells (jR o) 81)):=(Kp.refl _ _).alloc _;have E:=hid (zQ (w.alloc (.cells (jR o) 81)) o hk hsm)
 have hk0:(jR o)[0]? =some (.int .i64 3):=by rw[<-hk];rfl
 have hsz:=qH o;generalize jR o=OA at*
 have aI:(prog.info? 81).map (·.size)=some OA.size:=by rw[hsz];exact tR
 go_enter func39,ntmps39
 go_upto_region 1 with(fail)
 generalize w.alloc (.cells OA 81)=w1 at*;generalize w.heap.size=ob at*
 have c0:w1.cell? ⟨ob,0,none⟩=some (.int .i64 3):=by rw[World.cell?,hb1];exact hk0
 go_wp2_with (refine wpList_load_row rfl 81 (.tmp 3) rfl ob rfl 81 OA (0,0) d hb1 hd (by cases d<;>first|rfl|exact absurd eY (by simp[ak])) aI ?_)
 refine hm E ?_;rintro x w2 ⟨rfl,K2⟩;go_wp2;go_ret;exact⟨rfl,K1.trans K2⟩
theorem OY(v:Value)(ops:List qX)(hs:Mp w v ops)(hl:ops.length<=maxLen)(hsm:∀o∈ops,o.Sm):
 Calls prog 5 #[v] w λx w'=>x= .returned (.bool true)/\Kp (λ_=>False) w w':=by
 have E:=hid (qJ w v ops 3 3 (WlZ w.heap.size) hs hl (heap_alloc_new w _)
  (λW o ho h1 h2 hW _=>(CC W w.heap.size o (by omega) (hsm o ho)).mono (λx W' ⟨hx,hk⟩=>⟨hx,hk.at_ hW (λx=>x),hk.mono (λ_ _ x=>x.elim)⟩))
  (λW hW _=>(jO W w.heap.size hW).mono (λx W' ⟨hx,hk⟩=>by subst hk;exact⟨hx,hW,Kp.refl _ _⟩))
  (λW hW _=>(jr W w.heap.size hW).mono (λx W' ⟨hx,hk⟩=>by subst hk;exact⟨hx,Kp.refl _ _⟩)))
 go_enter func5,ntmps5
 go_wp2_with fail
 refine hm E ?_;rintro x w2 ⟨rfl,K⟩;go_wp2;go_ret;exact⟨rfl,K⟩
end
namespace Ch
theorem XO{ss:List St}{t:ByteArray}:∀(f k n:Nat) (l:List Int) (r:List Int×Nat),ur ss t f k n l=some r->k+f<=l.length->n<=t.size->
 r.2<=t.size/\(dW t).drop n=((List.range' k f).filter (cX ss)).map (λj=>r.1.getD j 0)++(dW t).drop r.2:=by
 intro f
 induction f with
 |zero=>intro k n l r h _ hn;simp[ur]at h;subst h;exact⟨hn,by simp⟩
 |succ f ih=>?_
 intro k n l r h hl hn;have hp:=Cp (f+1) k n l r h hl;simp only[ur]at h;rw[List.range'_succ]
 split at h
 ·rename_i q
  split at h
  ·cases h
  rename_i c
  have c':n<t.size:=by simp at c;omega
  obtain⟨h1,h2⟩:=ih (k+1) (n+1) _ r h (by simp;omega) (by omega);have h3:=(Cp f (k+1) (n+1) _ r h (by simp;omega)).1 k (by omega);refine⟨h1,?_⟩;rw[List.filter_cons_of_pos q,List.map_cons,List.cons_append,<-h2,h3]
  have hk:k<l.length:=by omega
  rw[List.drop_eq_getElem_cons (by rw[bz];exact c')];have h4:=kE t n c';rw[List.getElem?_eq_getElem (by rw[bz];exact c')]at h4;simp only[Option.some.injEq]at h4;rw[h4];simp[hk]
 rename_i q;obtain⟨h1,h2⟩:=ih (k+1) n l r h (by omega) hn;exact⟨h1,by rw[List.filter_cons_of_neg q];exact h2⟩
theorem FD{L:List RN}{ol:Ol}(mQ:L.map RN.st=ol.ag)(h16:L.length<=16){a:As}(h:(takeA ol.ag a).1=true):∃on,TkF L ol a (takeA ol.ag a).2 on:=by
 have hl:ol.ag.length<=16:=by rw[<-mQ];simpa using h16
 unfold takeA take at h⊢
 split at h
 ·rename_i c1
  rw[if_pos c1]
  split at h
  ·rename_i c2
   rw[if_pos c2]
   split at h
   ·rename_i c3
    rw[if_pos c3];simp only[Bool.and_eq_true]at c3
    have hA:∃on,gf L a.act=some on/\fJ L.length on (bT ol.ag a.act).1:=by
     unfold bT lG at c1⊢;rw[<-mQ]at c1⊢;unfold gf
     rcases vx (t:=a.act) h16 a.act.size 0 (-1) _ _ (Ql L.length) (by omega)with⟨_,e2⟩|⟨on,l,e1,e2,hs⟩
     ·rw[e2]at c1;simp at c1
     rw[e2]at c1⊢;refine⟨on,e1,?_⟩
     cases qf:allFit (L.map RN.st) l (L.map RN.st).length with
     |true=>simp only[qf,if_true];exact hs
     |false=>simp only[qf,Bool.false_eq_true,if_false]at c1
    obtain⟨on,h1,h2⟩:=hA;refine⟨on,h1,h2,?_,rfl,rfl,rfl,rfl,TL.mono (by omega) _ (Nat.le_refl _) (GP c3.1.1.1).1,(GP c3.1.1.1).2⟩
    show dW a.past=((List.range ol.ag.length).filter (cX ol.ag)).map λj=>(bD ol.ag a.past).1.getD j 0
    unfold bD at c2⊢
    cases q:ur ol.ag a.past (min ol.ag.length 16) 0 0 (cR ol.ag)with
    |none=>rw[q]at c2;simp at c2
    |some r=>?_
    rw[q]at c2;obtain⟨rl,rn⟩:=r;have ht:=XO _ _ _ _ _ q (by rw[eN];omega) (by omega);simp only at c2 ht⊢
    split at c2
    ·simp at c2
    rename_i c;rw[if_neg c]
    have e:rn=a.past.size:=by simp at c;omega
    have:=ht.2;rw[List.drop_eq_nil_of_le (i:=rn) (by rw[bz];omega),show min ol.ag.length 16=ol.ag.length by omega,<-List.range_eq_range',List.drop_zero,List.append_nil]at this;exact this
   simp at h
  simp at h
 simp at h
def dy(ol:Ol)(sd:Sd)(ev:Int):Bool×As×ByteArray:=
 if(b9 ol 29 (cd ol ⟨sd,[],[]⟩ (choose ol sd ev))).1 then(true,aH ol.ag (b9 ol 29 (cd ol ⟨sd,[],[]⟩ (choose ol sd ev))).2.s,strOfNums (b9 ol 29 (cd ol ⟨sd,[],[]⟩ (choose ol sd ev))).2.out)else(false,dX,⟨#[]⟩)
theorem xr(ol:Ol)(sd:Sd)(ev:Int):aQ ol sd ev=if(dy ol sd ev).1 then((b9 ol 29 (cd ol ⟨sd,[],[]⟩ (choose ol sd ev))).2.s,(dy ol sd ev).2.2,0)else(jH,ByteArray.empty,9):=by
 unfold aQ finish dy;rw[nU]
 cases busy ol (rounds ol 29 (cd ol ⟨sd,[],[]⟩ (choose ol sd ev)))<;>rfl
end Ch
theorem Ul(w:World)(s:ByteArray)(c:Nat):eu (Lib.bytesWorld w 5 s) w.heap.size (.slice (some ⟨w.heap.size,0,none⟩) s.size c) s.size (ar (dW s)):=by
 refine⟨by simp[ar,dW],.inr ⟨_,_,_,_,rfl,Nat.le_refl _,Lib.bytesWorld_at_new w 5 s,.inr (Nat.le_refl _),?_,?_⟩⟩
 ·simp[Lib.bytesCells]
 simp[Lib.bytesCells,ar,dW]
section
variable (w:World) (B cb:Nat) (l:List NV) (v:Value) (ol:Ol)
theorem CD(a:As)(ev:Int)(sd:Sd)(on:List Bool)(hF:iG w B cb l v)(hR:Rf l ol)(ha:a.Sm)(hT:TkF (Ch.mk l) ol a sd on)(hI:Ch.Inv ol sd)(hok:sd.Ok):
 Calls prog 146 #[.pointer (some ⟨cb,0,none⟩),.agg (aN a),.int .u8 ev] w λy w'=>y= .returned (.tuple #[.agg (aN (dy ol sd ev).2.1),.string (dy ol sd ev).2.2,.bool (dy ol sd ev).1])/\Kp (λ_=>False) w w':=by
 obtain⟨da,dE,bq⟩:=fN;have hle:=hR.le;obtain⟨ao,cap,rfl⟩:=hF.2.1.len;have K0:Kp (λ_=>False) w ((w.alloc (.cells (aN a) 26)).alloc (.cells aD 26)):=((Kp.refl _ _).alloc _).alloc _
 have hs0:((w.alloc (.cells (aN a) 26)).alloc (.cells aD 26)).heap[w.heap.size]? =some (.cells (aN a) 26):=by rw[Below.heap_alloc _ _ _ (by simp)];exact heap_alloc_new _ _
 have hb0:((w.alloc (.cells (aN a) 26)).alloc (.cells aD 26)).heap[w.heap.size+1]? =some (.cells aD 26):=by
  have:=heap_alloc_new (w.alloc (.cells (aN a) 26)) (.cells aD 26);simpa using this
 have hF0:=hF.ai K0;have hsz0:w.heap.size+1<((w.alloc (.cells (aN a) 26)).alloc (.cells aD 26)).heap.size:=lt_of_block hb0;clear hF
 go_enter func146,ntmps146
 go_upto_region 1 with(fail)
 generalize (w.alloc (.cells (aN a) 26)).alloc (.cells aD 26)=w0 at*;have E1:=hid (za w0 B cb l _ a.act hF0 (by omega) ha.act)
 have c0:w0.cell? ⟨w.heap.size,0,none⟩=some (.string a.act):=by rw[World.cell?,hs0];rfl
 have HF:=hid (ae hF0 (ae hb0 (ae K0 hs0)));clear hF0 hb0 K0 hs0
 go_wp2_with fail
 refine hm E1 ?_;rintro y w1 ⟨u,rfl,K1,hsp⟩;obtain⟨rfl,sC,_⟩:=hsp on hT.spread;have hs1:=K1.at_ HF.out.2.2.2 (λx=>x);have hcv:=Lib.run_convert_string_bytes (P:=prog) w1 9 47 5 a.past underlying9 underlying47 underlying5;have KB:=wU w1 5 a.past;have hps:=Ul w1 a.past (grownCap w1 a.past.size 0 5);have hlt1:w0.heap.size<w1.heap.size:=lt_of_block sC;have hs2:=KB.at_ hs1 (λx=>x)
 have d1:w1.cell? ⟨w.heap.size,1,none⟩=some (.string a.past):=by rw[World.cell?,hs1];rfl
 have d2:(Lib.bytesWorld w1 5 a.past).cell? ⟨w.heap.size,2,none⟩=some (.string a.tm):=by rw[World.cell?,hs2];rfl
 have d3:(Lib.bytesWorld w1 5 a.past).cell? ⟨w.heap.size,3,none⟩=some (.int .i64 a.x):=by rw[World.cell?,hs2];rfl
 have d4:(Lib.bytesWorld w1 5 a.past).cell? ⟨w.heap.size,4,none⟩=some (.int .i64 a.y):=by rw[World.cell?,hs2];rfl
 have d5:(Lib.bytesWorld w1 5 a.past).cell? ⟨w.heap.size,5,none⟩=some (.int .i64 a.z):=by rw[World.cell?,hs2];rfl
 have H1:=hid (ae (KB.at_ sC (λx=>x):iH (Lib.bytesWorld w1 5 a.past) w0.heap.size on) (ae (K1.trans KB) hps));clear E1 c0 hs1 hs2 KB hps K1 hsp sC;generalize grownCap w1 a.past.size 0 5=pc at*;generalize hw2:Lib.bytesWorld w1 5 a.past=w2 at*;clear hw2;generalize hg:w0.heap.size=g at*;generalize w1.heap.size=pb at*;generalize XJ:(#[.pointer (some ⟨cb,0,none⟩),.slice (some ⟨g,0,none⟩) l.length l.length,.slice (some ⟨pb,0,none⟩) a.past.size pc,.string a.tm,.int .i64 a.x,.int .i64 a.y,.int .i64 a.z,.string ⟨#[]⟩,.string ⟨#[]⟩]:Array Value)=NW
 go_upto_region 3 with(fail)
 have hN:lW (w2.alloc (.cells NW 274)) B w0.heap.size w2.heap.size cb g (.slice (some ⟨pb,0,none⟩) a.past.size pc) (.slice ao l.length cap) l ol ⟨sd,[],[]⟩:=by
  have KA:=(Kp.refl (λ_=>False) w2).alloc (.cells NW 274);refine⟨?_,⟨on,KA.at_ H1.out.1 (λx=>x),by have:=hT.same;rw[cP]at this;exact this⟩,?_,(HF.out.1.ai H1.out.2.1).ai KA⟩
  ·unfold fy nwA
   have e:(#[.pointer (some ⟨cb,0,none⟩),.slice (some ⟨g,0,none⟩) l.length l.length,.slice (some ⟨pb,0,none⟩) a.past.size pc,.string sd.tm,.int .i64 sd.x,.int .i64 sd.y,.int .i64 sd.z,.string ⟨#[]⟩,.string ⟨#[]⟩]:Array Value)=NW:=by rw[hT.tm,hT.x,hT.y,hT.z];exact XJ
   rw[<-e];exact heap_alloc_new _ _
  unfold Qr;rw[<-hT.past];rw[bz];exact⟨H1.out.2.2.1,(eu.keep H1.out.2.2 KA (λ_ _ x=>x)).2.imp id (λ⟨g',c',cu,fr,e1,e2,r⟩=>⟨g',c',cu,fr,e1,by omega,r⟩)⟩
 have KW:Kp (λ_=>False) w0 (w2.alloc (.cells NW 274)):=H1.out.2.1.alloc _
 have hgx:g<=w2.heap.size:=by have:=H1.out.2.1.size;omega
 have HP:=hid KW;have HX:=hid hN;have hck:=ql hR.iP hI ev;have hin:=(j4 ol sd ev).1;have hc16:=j5 hR.ok sd ev
 have hM:o_ ⟨sd,[],[]⟩ 0:=⟨hok,hT.tl,⟨Nat.le_refl _,Nat.le_refl _⟩⟩
 have hQ:QB ⟨sd,[],[]⟩:=λx hx=>by simp at hx
 have HM:=hid (ae (hM.cd hR.ok hR.uX hc16) (ae (hQ.cd hR.YW hR.uX (Ch.choose ol sd ev)) (iC hR.iP (m:=⟨sd,[],[]⟩) hI ev)));have HC:=hid (ae hck (ae hin hM));have E2:=hid (oM (w2.alloc (.cells NW 274)) B w2.heap.size cb g _ ⟨sd,[],[]⟩ l _ ol ev on hN.nb (((Kp.refl (λ_=>False) w2).alloc (.cells NW 274)).at_ H1.out.1 (λx=>x)) (by have:=hT.same;rw[cP]at this;exact this) hI hN.ch hR)
 have hpl:w0.heap.size<=pb:=by omega
 clear hN KW hck hin hM hQ hcv d1 d2 d3 d4 d5 XJ H1;generalize w2.alloc (.cells NW 274)=w3 at*;generalize w2.heap.size=xb at*;have HBG:=hid (show dy ol sd ev=if(b9 ol 29 (cd ol ⟨sd,[],[]⟩ (Ch.choose ol sd ev))).1 then(true,aH ol.ag (b9 ol 29 (cd ol ⟨sd,[],[]⟩ (Ch.choose ol sd ev))).2.s,strOfNums (b9 ol 29 (cd ol ⟨sd,[],[]⟩ (Ch.choose ol sd ev))).2.out)else(false,dX,⟨#[]⟩)from rfl);replace E2:Hid (Calls prog 205 #[.pointer (some ⟨xb,0,none⟩),.int .u8 ev] w3 λy w'=>∃u,y= .returned u/\w'.ownsRow w3.heap.size 301 2 u (Ch.choose ol sd ev).length (eS ol (Ch.choose ol sd ev))/\Kp (λ_=>False) w3 w'):=E2;generalize hcs:Ch.choose ol sd ev=cs at*;clear hcs
 go_wp2_with fail
 refine hm E2 ?_;rintro y w4 ⟨u,rfl,hu,K4⟩;have E3:=hid (vH w4 B w0.heap.size xb cb g _ _ l ol ⟨sd,[],[]⟩ 0 _ cs _ (HX.out.ai K4) hR hI HC.out.2.2 (by omega) hc16 HC.out.2.1 HC.out.1.2 HC.out.1.1 hu);have Vl:=hid (HP.out.trans K4);clear E2 hu K4 HP HC HX
 go_wp2_with fail
 refine hm E3 ?_;rintro y w5 ⟨rfl,X5,K5⟩;generalize cd ol ⟨sd,[],[]⟩ cs=ms at*;have E4:=hid (Cy B w0.heap.size xb cb g _ _ l ol hR 29 w5 ms _ X5 HM.out.2.2 HM.out.1 HM.out.2.1 (by omega));replace E4:Hid (Calls prog 203 #[.pointer (some ⟨xb,0,none⟩),.int .i64 29] w5 λy w'=>y= .returned (.bool (b9 ol 29 ms).1)/\lW w' B w0.heap.size xb cb g (.slice (some ⟨pb,0,none⟩) a.past.size pc) (.slice ao l.length cap) l ol (b9 ol 29 ms).2/\Kp (nS xb g (.slice (some ⟨pb,0,none⟩) a.past.size pc)) w5 w'):=E4;have HI8:=hid (show Ch.Inv ol (b9 ol 29 ms).2.s by rw[nU];exact lj hR.iP 29 HM.out.2.2);have rL:=hid K5;clear E3 X5 K5 HM
 go_wp2_with fail
 refine hm E4 ?_;rintro y w8 ⟨rfl,X8,K8⟩
 have Vk:∀i,i<w0.heap.size->nS xb g (.slice (some ⟨pb,0,none⟩) a.past.size pc) i->False:=λi hi e=>by
  rcases e with e|e|e
  ·omega
  ·omega
  simp[Value.ownBlock]at e;omega
 have KA:Kp (λ_=>False) w0 w8:=(Vl.out.trans' rL.out Vk).trans' K8 Vk;have hrb:=KA.at_ HF.out.2.1 (λx=>x);have HA:=hid (ae X8 (HF.out.2.2.1.trans KA));clear E4 X8 K8 rL Vl Vk KA hT;generalize b9 ol 29 ms=rr at*;obtain⟨ok,m8⟩:=rr;generalize Zt:w.heap.size+1=rb at*
 cases ok with
 |false=>
  have HB2:=hid (HBG.out.trans (if_neg (by simp)));have KF:Kp (λ_=>False) w (w8.setRow rb aD):=HA.out.2.setRow (λx=>by omega) _;clear HBG HI8 HF HA
  go_wp2_with (refine wpList_store_row rfl 26 (.tmp 6) (.tmp 48) rfl rb aD rfl rfl 26 aD hrb aP rfl (bZ dX) ?_)
  refine bodyPost_ret (aq rfl _ _ rb 26 aD (0,0) da rfl (setRow_heap _ _ _ _ _ _ hrb) dE bq aP) rfl ?_;rw[HB2.out];exact⟨rfl,KF⟩
 |true=>?_
 have HB2:=hid (HBG.out.trans (if_pos rfl));have E4:=hid (Cz w8 B w0.heap.size xb cb g _ _ l ol m8 HA.out.1 hR HI8.out);clear HBG HI8 HF
 go_wp2_with fail
 refine hm E4 ?_;rintro y w9 ⟨rfl,K9⟩;have Ht:=K9.at_ hrb (λx=>x);have X9:=HA.out.1.ai K9;have hnew:=heap_alloc_new w9 (.cells aD 26);have aO:=bZ (aH ol.ag m8.s);have aI:(prog.info? 26).map (·.size)=some (aN (aH ol.ag m8.s)).size:=aP;have aS:(aN (aH ol.ag m8.s)).size=6:=rfl;generalize kQ:aN (aH ol.ag m8.s)=AA at*;have Iz:=hid kQ;have tF:Kp (λ_=>False) w9 ((w9.alloc (.cells aD 26)).setRow w9.heap.size AA):=((Kp.refl _ _).alloc _).setRow (λx=>by omega) _;have hrow:=setRow_heap (w9.alloc (.cells aD 26)) w9.heap.size aD AA 26 (0,0) hnew;have KY:=tF.at_ Ht (λx=>x);have c8:((w9.alloc (.cells aD 26)).setRow w9.heap.size AA).cell? ⟨xb,8,none⟩=some (.string (strOfNums m8.out)):=(X9.ai tF).nb.cell 8
 have hsb:w9.heap.size≠rb:=by have:=lt_of_block Ht;omega
 have HK:=hid ((HA.out.2.trans K9).trans tF)
 have hxne:xb≠rb:=λe=>by
  have h1:=X9.nb;unfold fy at h1;rw[e,Ht]at h1;simp only[Option.some.injEq,Obj.cells.injEq]at h1;exact absurd h1.2.1 (by decide)
 clear kQ E4 K9 tF X9 HA hrb Ht
 go_upto_region 9 with(refine wpList_store_row rfl 26 (.tmp 14) (.tmp 50) rfl w9.heap.size AA rfl rfl 26 aD hnew aI aS.symm aO ?_)
 generalize (w9.alloc (.cells aD 26)).setRow w9.heap.size AA=pe at*;clear hnew;generalize w9.heap.size=sb at*
 have hS0:pe.drew.heap[sb]? =some (.cells AA 26 (0,0))/\pe.drew.cell? ⟨xb,8,none⟩=some (.string (strOfNums m8.out)):=⟨hrow,c8⟩
 have hS1:(pe.drew.setRow rb AA).heap[sb]? =some (.cells AA 26 (0,0))/\(pe.drew.setRow rb AA).cell? ⟨xb,8,none⟩=some (.string (strOfNums m8.out)):=⟨by rw[setRow_other _ _ _ _ hsb];exact hrow,by rw[World.cell?_of_block (setRow_other pe.drew _ _ _ hxne)];exact c8⟩
 have KF:Kp (λ_=>False) w (pe.drew.setRow rb AA):=HK.out.drew.setRow (λx=>by omega) _;refine az (λw'=>w'.heap[sb]? =some (.cells AA 26 (0,0))/\w'.cell? ⟨xb,8,none⟩=some (.string (strOfNums m8.out))) (by kernel_rfl) ?_;refine dM 0 51 (.agg AA) rfl (λw' hS=>bu 26 (.tmp 14) rfl sb (by simp[Act.eval,Act.put]) 26 AA (0,0) da hS.1 dE bq aI) hS0 ?_;refine aU 1 52 (.pointer (some ⟨xb,0,none⟩)) hS0 ?_;refine aU 2 53 (.pointer (some ⟨xb,0,none⟩)) hS0 ?_;refine aU 3 54 (.pointer (some ⟨xb,8,none⟩)) hS0 ?_;refine dM 4 55 (.string (strOfNums m8.out)) rfl (λw' hS=>by have:=hS.2;simp[execOp,Act.eval,go_sem,this]) hS0 ?_;refine bF 5 (by kernel_rfl) rfl rfl 26 (.tmp 6) (.tmp 51) rfl rfl rb AA (by simp[Act.eval]) (by simp[Act.eval]) 26 aD (by exact KY) aI aS.symm aO hS1 ?_;refine aU 6 7 (.string (strOfNums m8.out)) hS1 ?_;refine dM 7 8 (.bool true) rfl (λw' _=>by rfl) hS1 ?_;refine wpAnyH_done (by kernel_rfl) (NoPanic.normal ?_) _;go_wp2;refine bodyPost_ret (aq rfl _ _ rb 26 AA (0,0) da rfl (setRow_heap pe.drew _ _ _ _ _ (by exact KY)) dE bq aI) rfl ?_;rw[HB2.out];exact⟨by rw[<-Iz.out];rfl,KF⟩
end
namespace Ch
def qM(t:ByteArray)(a:As)(ev:ByteArray):As×ByteArray×Int:=
 if kP t a !=0 then(dX,⟨#[]⟩,kP t a)else if decide (ev.size=1)&&bR (af ev 0)then
  (if(dy (read t).2.2 (mj t a) (af ev 0)).1 then((dy (read t).2.2 (mj t a) (af ev 0)).2.1,(dy (read t).2.2 (mj t a) (af ev 0)).2.2,0)else(dX,⟨#[]⟩,9))else(dX,⟨#[]⟩,8)
theorem XP(t:ByteArray)(a:As)(ev:ByteArray):mz t a ev=qM t a ev:=by
 unfold mz qM;rw[xr]
 split
 ·rfl
 split
 ·unfold dy
  split<;>rfl
 rfl
end Ch
section
variable (w:World)
theorem Um(t:ByteArray)(a:As)(ev:ByteArray)(ha:a.Sm):
 Calls prog 100 #[.string t,.agg (aN a),.string ev] w λx w'=>x= .returned (.tuple #[.agg (aN (qM t a ev).1),.string (qM t a ev).2.1,.int .i64 (qM t a ev).2.2])/\Kp (λ_=>False) w w':=by
 obtain⟨da,dE,bq⟩:=fN;have K0:Kp (λ_=>False) w ((w.alloc (.cells (aN a) 26)).alloc (.cells aD 26)):=((Kp.refl _ _).alloc _).alloc _
 have hs0:((w.alloc (.cells (aN a) 26)).alloc (.cells aD 26)).heap[w.heap.size]? =some (.cells (aN a) 26):=by rw[Below.heap_alloc _ _ _ (by simp)];exact heap_alloc_new _ _
 have hb0:((w.alloc (.cells (aN a) 26)).alloc (.cells aD 26)).heap[w.heap.size+1]? =some (.cells aD 26):=by
  have:=heap_alloc_new (w.alloc (.cells (aN a) 26)) (.cells aD 26);simpa using this
 have HE:=hid (λh0 L hN=>Hu (t:=t) (L:=L) h0 hN a);have XN:=hid (show(Ch.read t).1≠0->kP t a=(Ch.read t).1 from λh=>by unfold kP;rw[if_pos (by simpa using h)])
 have HU:=hid (show qM t a ev=if kP t a !=0 then(dX,⟨#[]⟩,kP t a)else if decide (ev.size=1)&&bR (af ev 0)then
  (if(dy (Ch.read t).2.2 (mj t a) (af ev 0)).1 then((dy (Ch.read t).2.2 (mj t a) (af ev 0)).2.1,(dy (Ch.read t).2.2 (mj t a) (af ev 0)).2.2,0)else(dX,⟨#[]⟩,9))else(dX,⟨#[]⟩,8)from rfl)
 have aI:(prog.info? 26).map (·.size)=some (aN a).size:=aP
 go_enter func100,ntmps100
 go_upto_region 1 with(fail)
 generalize (w.alloc (.cells (aN a) 26)).alloc (.cells aD 26)=w0 at*;generalize Zt:w.heap.size+1=rb at*;generalize acA:w.heap.size=ob at*;have E0:=hid (nh w0 t)
 go_wp2_with fail
 refine hm E0 ?_;rintro x w2 ⟨p,rfl,hq1,hq2,K2⟩;have hs2:=K2.at_ hs0 (λx=>x);have hrb:=K2.at_ hb0 (λx=>x);have KW:=K0.trans K2;clear E0 hs0 hb0 K0 K2
 cases q1:(Ch.read t).1 !=0 with
 |true=>
  have hne:(Ch.read t).1≠0:=by simpa using q1
  have HF:=hid (HU.out.trans (show _=(dX,(⟨#[]⟩:ByteArray),(Ch.read t).1)by rw[XN.out hne,q1];rfl));have KF:Kp (λ_=>False) w (w2.setRow rb aD):=KW.setRow (λx=>by omega) _;clear hq1 hq2 HE XN HU KW hne;generalize (Ch.read t).1=re at*;generalize (Ch.read t).2.1=rp at*
  go_wp2_with (refine wpList_store_row rfl 26 (.tmp 6) (.tmp 23) rfl rb aD rfl rfl 26 aD hrb aP rfl (bZ dX) ?_)
  refine bodyPost_ret (aq rfl _ _ rb 26 aD (0,0) da rfl (setRow_heap _ _ _ _ _ _ hrb) dE bq aP) rfl ?_;rw[HF.out];exact⟨rfl,KF⟩
 |false=>?_
 have h0:(Ch.read t).1=0:=by simpa using q1
 obtain⟨cb,l,v,rfl,hF,hN,hbd,hT⟩:=hq2 h0;have hR:=Ao h0 hN hT;have hRE:=HE.out h0 _ hN
 have E2:=hid (tT w2 w0.heap.size cb l v a hF (by have:=hbd.1;omega) ha (λi x hx=>by
  have:=hN.wf i x.n (by unfold Ch.mk;rw[List.getElem?_map,hx];rfl)
  exact⟨this.1,this.2.1⟩))
 have HX:=hid (ae hF (ae hR KW));clear hq1 hq2 hN hbd hT HE XN KW hF;generalize nR (Ch.mk l) a.act a.past a.tm a.x a.y a.z=lr at*;have Vm:=hid hRE;clear hRE h0;generalize kQ:aN a=AA at*;have Iz:=hid kQ;clear kQ;generalize hre:(Ch.read t).1=re at*;clear hre;generalize (Ch.read t).2.1=rp at*
 go_wp2_with (refine wpList_load_row rfl 26 (.tmp 4) rfl ob rfl 26 AA (0,0) da hs2 dE (by cases da<;>first|rfl|exact absurd bq (by simp[ak])) aI ?_)
 refine hm E2 ?_;rintro y w3 ⟨rfl,K3⟩;have hs3:=K3.at_ hs2 (λx=>x);have sE:=K3.at_ hrb (λx=>x);have sf:=hid (ae (HX.out.1.ai K3) (ae HX.out.2.1 (HX.out.2.2.trans K3)));clear E2 K3 hs2 hrb HX
 cases lr with
 |false=>
  have HF:=hid (HU.out.trans (show _=(dX,(⟨#[]⟩:ByteArray),(7:Int))by rw[Vm.out];rfl));have KF:Kp (λ_=>False) w (w3.setRow rb aD):=sf.out.2.2.setRow (λx=>by omega) _;clear HU sf Vm
  go_wp2_with (refine wpList_store_row rfl 26 (.tmp 6) (.tmp 30) rfl rb aD rfl rfl 26 aD sE aP rfl (bZ dX) ?_)
  refine bodyPost_ret (aq rfl _ _ rb 26 aD (0,0) da rfl (setRow_heap _ _ _ _ _ _ sE) dE bq aP) rfl ?_;rw[HF.out];exact⟨rfl,KF⟩
 |true=>?_
 have hl0:kP t a=0:=Vm.out;obtain⟨hls,htk⟩:=Bn hl0;have hR:=sf.out.2.1;obtain⟨on,hTk⟩:=FD (L:=Ch.mk l) (ol:=(Ch.read t).2.2) (by have:=hR.ag;unfold Ch.ag at this;exact this) (by rw[cP];exact hR.le) htk;have hIn:=Kg hR.iP htk;replace hIn:Ch.Inv (Ch.read t).2.2 (takeA (Ch.read t).2.2.ag a).2:=hIn;have hOk:(takeA (Ch.read t).2.2.ag a).2.Ok:=wB;rw[<-hls]at hTk hIn hOk
 have HV:=hid (HU.out.trans (show _=if decide (ev.size=1)&&bR (af ev 0)then
  (if(dy (Ch.read t).2.2 (mj t a) (af ev 0)).1 then((dy (Ch.read t).2.2 (mj t a) (af ev 0)).2.1,(dy (Ch.read t).2.2 (mj t a) (af ev 0)).2.2,0)else(dX,⟨#[]⟩,9))else(dX,(⟨#[]⟩:ByteArray),8)by rw[hl0];rfl))
 have HT:=hid (ae hTk (ae hIn hOk));clear hl0 htk hls hTk hIn hOk hR Vm HU;generalize mj t a=sd at*;generalize (Ch.read t).2.2=ol at*
 by_cases hs:ev.size=1
 ·have hs':(ev.size:Int)=1:=by omega
  have h0:0<ev.size:=by omega
  have hpk:af ev 0=((ev[0]'h0).toNat:Int):=by simp[af,hs]
  have hc0:0<=((ev[0]'h0).toNat:Int):=by omega
  rw[hpk]at HV;clear hpk;generalize hc:((ev[0]'h0).toNat:Int)=c at*
  by_cases q2:97<=c
  ·by_cases q3:c<=122
   ·have q4:¬c<97:=by omega
    have q5:¬ 122<c:=by omega
    have hie:bR c=true:=by unfold bR;simp[q2,q3]
    have HW:=hid (HV.out.trans (show _=if(dy ol sd c).1 then((dy ol sd c).2.1,(dy ol sd c).2.2,(0:Int))else(dX,(⟨#[]⟩:ByteArray),9)by rw[hie];simp[hs]))
    have E3:∀W,Kp (λ_=>False) w3 W->Hid (Calls prog 146 #[.pointer (some ⟨cb,0,none⟩),.agg AA,.int .u8 c] W λx w'=>x= .returned (.tuple #[.agg (aN (dy ol sd c).2.1),.string (dy ol sd c).2.2,.bool (dy ol sd c).1])/\Kp (λ_=>False) W w'):=λW K=>hid (by rw[<-Iz.out];exact CD W w0.heap.size cb l v ol a c sd on (sf.out.1.ai K) sf.out.2.1 ha HT.out.1 HT.out.2.1 HT.out.2.2)
    generalize hfd:dy ol sd c=fd at*;clear hfd HV HT hie;obtain⟨fe,fs,ft⟩:=fd;simp only at E3 HW;have fO:=bZ fs;have fI:(prog.info? 26).map (·.size)=some (aN fs).size:=aP;have fS:(aN fs).size=6:=rfl;generalize yT:aN fs=FA at*;have Iy:=hid yT;clear yT
    go_upto_region 9 with(fail)
    go_cut [13,14,12]from 45 to 53 (λp e f wx=>∃fb,p= .pointer (some ⟨fb,0,none⟩)/\e= .string ft/\f= .bool fe/\wx.heap[fb]? =some (.cells FA 26 (0,0))/\Kp (λ_=>False) w3 wx)
    case first=>
     have hS0:Kp (λ_=>False) w3 w3.drew:=(Kp.refl _ _).drew;refine az (λw'=>Kp (λ_=>False) w3 w') (by kernel_rfl) ?_;refine aU 0 46 (.pointer (some ⟨cb,0,none⟩)) hS0 ?_;refine dM 1 47 (.agg AA) rfl (λw' hS=>bu 26 (.tmp 4) rfl ob (by simp[Act.eval]) 26 AA (0,0) da (hS.at_ hs3 (λx=>x)) dE bq aI) hS0 ?_;refine aU 2 48 (.string ev) hS0 ?_;refine dM 3 49 (.int .u8 c) rfl (λw' _=>by simp[execOp,Act.eval,go_sem,hs,hc]) hS0 ?_;refine k6 4 9 (by kernel_rfl) rfl rfl rfl rfl ?_ ?_
     ·refine bS (some 50) rfl 146 #[.pointer (some ⟨cb,0,none⟩),.agg AA,.int .u8 c] (by simp[execOp,Act.eval,go_sem]) _ (λw'=>Kp (λ_=>False) w3.drew w') (E3 w3.drew hS0).out ?_
      intro w5 K5;have hS5:=hS0.trans K5;have yz:=hS5.alloc (.cells aD 26);have hnew:=heap_alloc_new w5 (.cells aD 26);have qE:=yz.setRow (g:=w5.heap.size) (λx=>by have:=hS5.size;omega) FA;refine⟨hS5,?_⟩;simp only[Act.put,pA,pB,pC];refine aU 5 45 (.tuple #[.agg FA,.string ft,.bool fe]) hS5 ?_;refine aU 6 51 (.agg FA) hS5 ?_;refine aU 7 52 (.string ft) hS5 ?_;refine aU 8 53 (.bool fe) hS5 ?_;refine jD 9 ?_;refine dZ (some 13) rfl (.pointer (some ⟨w5.heap.size,0,none⟩)) (w5.alloc (.cells aD 26)) (by simp[execOp,go_sem]) ?_;simp only[Act.put,pA,pB,pC];refine⟨yz,?_⟩;refine bF 10 (by kernel_rfl) rfl rfl 26 (.tmp 13) (.tmp 51) rfl rfl w5.heap.size FA (by simp[Act.eval]) (by simp[Act.eval]) 26 aD hnew fI fS.symm fO qE ?_;refine aU 11 14 (.string ft) qE ?_;refine aU 12 12 (.bool fe) qE ?_;refine wpAnyH_done (by kernel_rfl) (NoPanic.normal ?_) _
      go_wp2_with fail
      go_meet
      exact⟨w5.heap.size,rfl,rfl,rfl,setRow_heap _ _ _ _ _ _ hnew,qE⟩
     refine dZ (some 13) rfl (.pointer (some ⟨w3.heap.size,0,none⟩)) (w3.drew.alloc (.cells aD 26)) (by simp[execOp,go_sem]) ?_;simp only[Act.put,pA,pB,pC];have hnew:=heap_alloc_new w3.drew (.cells aD 26);have pM:=hS0.alloc (.cells aD 26);refine⟨pM,?_⟩;refine jD 4 ?_;refine bS (some 50) rfl 146 #[.pointer (some ⟨cb,0,none⟩),.agg AA,.int .u8 c] (by simp[execOp,Act.eval,go_sem]) _ (λw'=>Kp (λ_=>False) (w3.drew.alloc (.cells aD 26)) w') (E3 _ pM).out ?_;intro w5 K5;have hS5:=pM.trans K5;have kR:w5.heap[w3.heap.size]? =some (.cells aD 26 (0,0)):=K5.at_ (k:=w3.heap.size) (by exact hnew) (λx=>x);have qE:=hS5.setRow (g:=w3.heap.size) (λx=>by omega) FA;refine⟨hS5,?_⟩;simp only[Act.put,pA,pB,pC];refine aU 5 45 (.tuple #[.agg FA,.string ft,.bool fe]) hS5 ?_;refine aU 6 51 (.agg FA) hS5 ?_;refine aU 7 52 (.string ft) hS5 ?_;refine aU 8 53 (.bool fe) hS5 ?_;refine bF 10 (by kernel_rfl) rfl rfl 26 (.tmp 13) (.tmp 51) rfl rfl w3.heap.size FA (by simp[Act.eval]) (by simp[Act.eval]) 26 aD kR fI fS.symm fO qE ?_;refine aU 11 14 (.string ft) qE ?_;refine aU 12 12 (.bool fe) qE ?_;refine wpAnyH_done (by kernel_rfl) (NoPanic.normal ?_) _
     go_wp2_with fail
     go_meet
     exact⟨w3.heap.size,rfl,rfl,rfl,setRow_heap _ _ _ _ _ _ kR,qE⟩
    case rest=>
     obtain⟨fb,rfl,rfl,rfl,hrow,K5⟩:=hcut;have OZ:=K5.at_ sE (λx=>x);have KD:=sf.out.2.2.trans K5;clear sf E3 K5 sE hs3
     cases fe with
     |false=>
      have HF:=hid (HW.out.trans (if_neg (by simp)));have KF:Kp (λ_=>False) w (wc.setRow rb aD):=KD.setRow (λx=>by omega) _;clear KD HW
      go_wp2_with (refine wpList_store_row rfl 26 (.tmp 6) (.tmp 56) rfl rb aD rfl rfl 26 aD OZ aP rfl (bZ dX) ?_)
      refine bodyPost_ret (aq rfl _ _ rb 26 aD (0,0) da rfl (setRow_heap _ _ _ _ _ _ OZ) dE bq aP) rfl ?_;rw[HF.out];exact⟨rfl,KF⟩
     |true=>?_
     have HF:=hid (HW.out.trans (if_pos rfl));have KF:Kp (λ_=>False) w (wc.setRow rb FA):=KD.setRow (λx=>by omega) _;clear KD HW
     go_wp2_with (first|refine wpList_load_row rfl 26 (.tmp 13) rfl fb rfl 26 FA (0,0) da hrow dE (by cases da<;>first|rfl|exact absurd bq (by simp[ak])) fI ?_|refine wpList_store_row rfl 26 (.tmp 6) (.tmp 57) rfl rb FA rfl rfl 26 aD OZ fI fS.symm fO ?_)
     refine bodyPost_ret (aq rfl _ _ rb 26 FA (0,0) da rfl (setRow_heap _ _ _ _ _ _ OZ) dE bq fI) rfl ?_;rw[HF.out];exact⟨by rw[<-Iy.out];rfl,KF⟩
   have q4:¬c<97:=by omega
   have q5:122<c:=by omega
   have hie:bR c=false:=by unfold bR;simp[q3]
   have HF:=hid (HV.out.trans (show _=(dX,(⟨#[]⟩:ByteArray),(8:Int))by rw[hie];simp));have KF:Kp (λ_=>False) w (w3.setRow rb aD):=sf.out.2.2.setRow (λx=>by omega) _;clear HV sf HT hie
   go_wp2_with (refine wpList_store_row rfl 26 (.tmp 6) (.tmp 44) rfl rb aD rfl rfl 26 aD sE aP rfl (bZ dX) ?_)
   refine bodyPost_ret (aq rfl _ _ rb 26 aD (0,0) da rfl (setRow_heap _ _ _ _ _ _ sE) dE bq aP) rfl ?_;rw[HF.out];exact⟨rfl,KF⟩
  have q4:c<97:=by omega
  have hie:bR c=false:=by unfold bR;simp[q2]
  have HF:=hid (HV.out.trans (show _=(dX,(⟨#[]⟩:ByteArray),(8:Int))by rw[hie];simp));have KF:Kp (λ_=>False) w (w3.setRow rb aD):=sf.out.2.2.setRow (λx=>by omega) _;clear HV sf HT hie
  go_wp2_with (refine wpList_store_row rfl 26 (.tmp 6) (.tmp 44) rfl rb aD rfl rfl 26 aD sE aP rfl (bZ dX) ?_)
  refine bodyPost_ret (aq rfl _ _ rb 26 aD (0,0) da rfl (setRow_heap _ _ _ _ _ _ sE) dE bq aP) rfl ?_;rw[HF.out];exact⟨rfl,KF⟩
 have hs':((ev.size:Int)!=1)=true:=by simp;omega
 have HF:=hid (HV.out.trans (show _=(dX,(⟨#[]⟩:ByteArray),(8:Int))by simp[hs]));have KF:Kp (λ_=>False) w (w3.setRow rb aD):=sf.out.2.2.setRow (λx=>by omega) _;clear HV sf HT
 go_wp2_with (refine wpList_store_row rfl 26 (.tmp 6) (.tmp 44) rfl rb aD rfl rfl 26 aD sE aP rfl (bZ dX) ?_)
 refine bodyPost_ret (aq rfl _ _ rb 26 aD (0,0) da rfl (setRow_heap _ _ _ _ _ _ sE) dE bq aP) rfl ?_;rw[HF.out];exact⟨rfl,KF⟩
end
end Go.Proofs.YtnlbchmfcebeeaaGreat
