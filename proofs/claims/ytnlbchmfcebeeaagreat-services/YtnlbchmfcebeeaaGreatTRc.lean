import Derived.Test.YtnlbchmfcebeeaaGreatTZt
set_option maxHeartbeats 12800000
set_option maxRecDepth 100000
namespace Go.Proofs.YtnlbchmfcebeeaaGreat
open Go.Proofs.Tryz Ch
open Go.RowKit
open Value(int slice bool pointer string agg tuple)
open IntKind(i64)
open Obj(cells)
open Ending(returned)
open Operand(tmp)
open Or(inl inr)
def Ab(w:World)(v:Value)(ss:List St):Prop:=∃E D,v= slice E ss.length D/\∀i s,ss[i]? =some s->∃g,E=some ⟨g,0,none⟩/\w.cell? ⟨g,i*3,none⟩=some (string (strOfNums [s.name]))/\w.cell? ⟨g,i*3+1,none⟩=some (int i64 s.kind)/\w.cell? ⟨g,i*3+2,none⟩=some (int i64 s.parent)
theorem DW w a b ss(E:Ab w a ss)(hb:Ab w b ss)(hl:ss.length<=1000):
 Calls prog 95 #[a,b] w λx w'=>x=returned (bool true)/\Kp bA w w':=by
 obtain⟨ao,ac,rfl,E⟩:=E;obtain⟨bo,bc,rfl,hb⟩:=hb;have I:=ag E;have J:=ag hb;go_in;go_wp;go_loopw [5] (λi wr=>∃k:Nat,i= int i64 k/\k<=ss.length/\Kp bA w wr) (λi _=>ss.length-(intOf i).toNat)
 case atStart=>exact⟨0,rfl,aA _,Kp.refl _ _⟩
 case round=>
  obtain⟨k,rfl,hk,D⟩:=hrel;by_cases F:k<ss.length
  ·have G:(k:Int)<ss.length:=oQ;obtain⟨s,hs⟩:∃s,ss[k]? =some s:=⟨_,au F⟩
   obtain⟨g,rfl,O,Q,R⟩:=I k s hs;obtain⟨g',rfl,U,X,Y⟩:=J k s hs;have c0:=D.bN O;have c1:=D.bN Q;have c2:=D.bN R;have d0:=D.bN U;have d1:=D.bN X;have d2:=D.bN Y;generalize strOfNums [s.name]=nm at*;go_upto_region 6 with fail;go_quiet (fail);go_wp2;exact⟨⟨k+1,eb,oQ,D.drewN _⟩,ew⟩
  have Z:¬(k:Int)<ss.length:=oQ;exact iN D
def wQ(n:Nat)(m:Int):List Value:=(List.replicate n [Value.string ⟨#[]⟩,int i64 m,int i64 m]).flatten
theorem yW n m:(wQ n m).length=n*3:=by
 unfold wQ;rw[List.length_flatten,List.map_replicate,List.sum_replicate_nat];rfl
theorem wR n k m:wQ n m++wQ k m=wQ (n+k) m:=by
 unfold wQ;rw[<-List.flatten_append,List.replicate_append_replicate]
theorem G3{n m}:∀u∈wQ n m,u.oneCell'=true:=λu hu=>by
 unfold wQ at hu;have⟨l,hl,hu⟩:=List.mem_flatten.1 hu;have:=List.eq_of_mem_replicate hl;subst this;simp at hu;rcases hu with rfl|rfl<;>rfl
theorem ji{P}w t e i z size bytes(ht:P.underlying t=some (.slice e))(hi:P.info? e=some i)(hz:i.zero=some z)(I:i.size=size)(Q:i.bytes=bytes)(U:z.cells.size=size)(iL:0<size)base v n Y(F:w.ownsRow base e size v n Y)(R:∀ao c,v= slice ao n c->c=n)a m c D(hl:D.length=m*size)(G:∀j u,D[j]? =some u->w.cell? (a.add j)=some u)(h1:∀u∈D,u.oneCell'=true)(hm:0<m)(O:n+m<=maxLen)(E:(n+m)*bytes<=140737488355328):
 ∃J w',(Builtin.append_ #[t,t] t #[v,slice (some a) m c]).run P w= .ok J w'/\w'.ownsRow w.heap.size e size J (n+m) (Y++D)/\Kp bA w w':=by
 rcases F.2 with⟨X,h0⟩|⟨g,Z,aa,X,hb,hg,ad,_,ab,aj⟩
 ·subst h0;have hx:Y=[]:=sV (by have:=F.1;omega);subst hx;subst X;have⟨J,w',hr,ho,hgr,_⟩:=run_append_own (P:=P) w w.heap.size t t e i z size bytes ht hi hz I Q U iL _ 0 [] (cd w w.heap.size e size) a m c D hl G h1 O E (aC _);exact⟨J,w',hr,ho,(Kp.refl _ _).grown hgr (λk hk _=>by simp[Value.ownBlock]at hk)⟩
 have hc:=R _ _ X;subst X;have⟨J,w',hr,ho,hgr⟩:=run_append_arg_grows (P:=P) w t t e i z size bytes ht hi hz I Q U iL ⟨g,0,none⟩ n Z Y F.1 (F.cells (g:=g) rfl) a m c D hl G oQ O E;exact⟨J,w',hr,ho,(Kp.refl _ _).grown hgr (λk hk _=>by simp at hk)⟩
theorem dP{P D rest o a w Q}(E:o.guard=none)s x t(F:o.op= .call {callee:=.builtin .append,args:=#[s,x],argTypes:=#[t,t]})v u G w'(hs:a.eval s=v)(O:a.eval x=u)(J:(Builtin.append_ #[t,t] o.type #[v,u]).run P w= .ok G w')(I:wpList P D Q rest (a.put o.dst G) w'):wpList P D Q (o::rest) a w:=
 wpList_plain E λK hK'=>by
  unfold Oper.wp execOp;simp only[F,resolve,invoke,builtin,kQ,np,kR,List.map_toArray,nY,List.map_nil,hs,O,J];exact hK' _ _ I
def OE(sv iv nv mv qv:Value)(k:Int):Array Value:=#[sv,iv,nv,mv,qv,int i64 k]
theorem Kd w wb{C}k(h:w.heap[wb]? =some (cells C 77 (0,0)))(D:C[5]? =some (int i64 k))(F:0<=k)(G:k<=4000000000000):
 Calls prog 143 #[pointer (some ⟨wb,0,none⟩)] w λx w'=>x=returned (int i64 (-(k+1)))/\w'=w.setCell ⟨wb,5,none⟩ (int i64 (k+1)):=by
 have c5:w.cell? ⟨wb,5,none⟩=some (int i64 k):=dG h D;have f5:w.frozen? ⟨wb,5,none⟩=false:=by simp[World.frozen?,h]
 have E:=(Array.getElem?_eq_some_iff.1 D).1;have d5:(w.setCell ⟨wb,5,none⟩ (int i64 (k+1))).cell? ⟨wb,5,none⟩=some (int i64 (k+1)):=by rw[World.cell?,ar _ h];simp[E]
 go_in;exact we
theorem Xp:(prog.info? 107).map (λi=>(i.zero,i.size,i.bytes))=some (some (slice none 0 0),1,24):=bZ
theorem Xq{n j m}{D:List Value}(G:D.length=n*3)(F:j<n):(((wQ j m++D.drop (j*3)).set (j*3) (string ⟨#[]⟩)).set (j*3+1) (int i64 m)).set (j*3+2) (int i64 m)=wQ (j+1) m++D.drop ((j+1)*3):=by
 have E:=yW j m;have e:D.drop (j*3)=D[j*3]'oQ::D[j*3+1]'oQ::D[j*3+2]'oQ::D.drop ((j+1)*3):=by
  rw[eR oQ,eR oQ,eR oQ];congr 4;omega
 rw[e,nW _ _ oQ,nW _ _ oQ,nW _ _ oQ,E,<-wR];simp only[n_,Nat.add_sub_cancel_left,List.set_cons_zero,List.set_cons_succ];simp[wQ]
section
variable (w:World) (wb B:Nat)
def Z1(w w':World)(wb B:Nat)(sv iv E nv mv v:Value)(k:Int)(n:Nat)(ls ms:List Value):Prop:=∃D mv' g1 g2 g3,w'.heap[wb]? =some (cells (OE sv iv D E mv' (k+1)) 77 (0,0))/\w'.ownsRow B 107 1 D (ls.length+4) (ls++[v,g1,g2,g3])/\w'.ownsRow B 3 1 mv' (ms.length+4) (ms++[int i64 (-(k+1)),int i64 (-(k+1)),int i64 (-(k+1)),int i64 (-(k+1))])/\
 w'.ownsRow 0 111 3 v n (wQ n (-(k+1)))/\w'.ownsRow 0 111 3 g1 (n+1) (wQ (n+1) (-(k+1)))/\w'.ownsRow 0 111 3 g2 (n+2) (wQ (n+2) (-(k+1)))/\w'.ownsRow 0 111 3 g3 (n+3) (wQ (n+3) (-(k+1)))/\
 Kp (λi=>i=wb\/nv.ownBlock=some i\/mv.ownBlock=some i\/v.ownBlock=some i) w w'/\∀b,mv'.ownBlock=some b->mv.ownBlock=some b\/w.heap.size<=b
theorem G4 sv iv mi nv mv v k n X ls ms(h:w.heap[wb]? =some (cells (OE sv iv nv mi mv k) 77 (0,0)))(h0:0<=k)(h1:k<=4000000000000)(hv:w.ownsRow B 111 3 v n X)(aa:∀E c,v= slice E n c->c=n)(hn:n<=1000)(aj:w.ownsRow B 107 1 nv ls.length ls)(ad:w.ownsRow B 3 1 mv ms.length ms)(bt:ls.length<=4000000000000)(bx:ms.length<=4000000000000)(hB:B<=w.heap.size):
 Calls prog 96 #[pointer (some ⟨wb,0,none⟩),v] w λx w'=>x=returned (tuple #[])/\Z1 w w' wb B sv iv mi nv mv v k n ls ms:=by
 have⟨i0,hi,hz0,hz1,hz2⟩:=cr CK;have⟨i1,hi1,hy0,hy1,hy2⟩:=cr Xp;have⟨i2,hi2,hx0,hx1,hx2⟩:=cr nI;have E1:=ag (Kd w wb k h rfl h0 h1);have J:(w.setCell ⟨wb,5,none⟩ (int i64 (k+1))).heap[wb]? =some (cells (OE sv iv nv mi mv (k+1)) 77 (0,0)):=by rw[ar _ h];rfl
 have Y:Kp (λi=>i=wb) w (w.setCell ⟨wb,5,none⟩ (int i64 (k+1))):=(Kp.refl _ _).setCell jF _;have D:=Y.owns hv (λj hj e=>aZ hv h aV (by rw[hj,e]));have I:=Y.owns aj (λj hj e=>aZ aj h aV (by rw[hj,e]));have G:=Y.owns ad (λj hj e=>aZ ad h aV (by rw[hj,e]));have bm:X.length=n*3:=hv.1;obtain⟨E,ac,rfl⟩:=bp hv;have F:n=ac:=(aa E ac rfl).symm;subst F;have H1:=rP J Y D I G;clear J Y D I G h hv aj ad aa;go_in;go_wp2_with fail;refine fu E1 ?_;rintro y w1 ⟨rfl,e1⟩;rw[e1];clear e1 w1 E1;generalize w.setCell ⟨wb,5,none⟩ (int i64 (k+1))=w1 at*;generalize aS: -(k+1)=m at*;have HM:=ag aS;clear aS;go_wp2_with fail;go_loopw [5] (λiv wr=>∃j:Nat,iv= int i64 j/\j<=n/\Hid (wr.ownsRow B 111 3 (slice E n n) n (wQ j m++X.drop (j*3)))/\Kp (λi=>(Value.slice E n n).ownBlock=some i) w1 wr) (λiv _=>n-(intOf iv).toNat)
 case atStart=>exact⟨0,rfl,aA _,ag (by simpa[wQ]using H1.2.2.1),Kp.refl _ _⟩
 case round=>
  obtain⟨j,rfl,hj,U,KW⟩:=hrel;by_cases bk:j<n
  ·have bo:(j:Int)<n:=oQ;have⟨g,cap',hv',_⟩:=cO U oQ;simp only[aH]at hv';obtain⟨rfl,-,-⟩:=hv';have bi:(wQ j m++X.drop (j*3)).length=n*3:=U.1;obtain⟨v0,c0⟩:∃u,wr.cell? ⟨g,j*3,none⟩=some u:=⟨_,(bK U (j*3) oQ).trans (au oQ)⟩
   obtain⟨v1,c1⟩:∃u,wr.cell? ⟨g,j*3+1,none⟩=some u:=⟨_,(bK U (j*3+1) oQ).trans (au oQ)⟩
   obtain⟨v2,c2⟩:∃u,wr.cell? ⟨g,j*3+2,none⟩=some u:=⟨_,(bK U (j*3+2) oQ).trans (au oQ)⟩
   have fz:=World.ownsRow.frozenAt U;have f0:=fz (j*3);have f1:=fz (j*3+1);have f2:=fz (j*3+2);have o3:=(World.ownsRow.stored (World.ownsRow.stored (World.ownsRow.stored U (j*3) (string ⟨#[]⟩)).1 (j*3+1) (int i64 m)).1 (j*3+2) (int i64 m)).1;rw[Xq bm bk]at o3;have Z:=((KW.setCell (p:=⟨g,j*3,none⟩) (λ_=>rfl) (string ⟨#[]⟩)).setCell (p:=⟨g,j*3+1,none⟩) (λ_=>rfl) (int i64 m)).setCell (p:=⟨g,j*3+2,none⟩) (λ_=>rfl) (int i64 m);have HZ:=bw o3 Z;clear o3 Z U KW fz bi;go_wp2;go_roundw
   case rel=>exact⟨j+1,eb,oQ,ag HZ.1,HZ.2⟩
   case measure=>exact ew
  have br:¬(j:Int)<n:=oQ;obtain rfl:j=n:=oQ;have D:wr.ownsRow B 111 3 (slice E j j) j (wQ j m):=by
   have:=U;rw[dA oQ,iz]at this;exact this
  have F:∀a5 c,Value.slice E j j= slice a5 j c->c=j:=λ_ _ e=>by injection e with _ _ e;exact e.symm
  have O:=ak wr (cells #[string ⟨#[]⟩,int i64 m,int i64 m] 111);have Kn:=kG wr (cells #[string ⟨#[]⟩,int i64 m,int i64 m] 111);have am:=Kn.owns D (λ_ _ x=>x);have KA:Kp (λi=>(Value.slice E j j).ownBlock=some i) w1 (wr.alloc (cells #[string ⟨#[]⟩,int i64 m,int i64 m] 111)):=KW.trans' Kn gM;clear Kn U D KW;go_upto_region 6 with(fail);generalize wr.alloc (cells #[string ⟨#[]⟩,int i64 m,int i64 m] 111)=w2 at*;generalize wr.heap.size=nb at*;have⟨g1,w3,hr3,o3,Z⟩:=ji (P:=prog) (w2.alloc (cells #[string ⟨#[]⟩,int i64 m,int i64 m] 111)) 107 111 i0 (agg #[string ⟨#[]⟩,int i64 0,int i64 0]) 3 32 underlying107 hi hz0 hz1 hz2 rfl aV B (slice E j j) j (wQ j m) (by exact am.alloc _) F ⟨w2.heap.size,0,none⟩ 1 1 (wQ 1 m) (yW _ _) (by exact eZ _ (wQ 1 m) _) G3 aV wY oQ;rw[wR]at o3;obtain⟨a1,b1,rfl⟩:=bp o3;replace Z:Kp bA w2 w3:=((Kp.refl _ _).alloc _).trans Z;have U_:=Z.at_ O (λx=>x);have ap:=Z.owns am (λ_ _ x=>x);have a6:w2.cell? ⟨nb,0,none⟩=some (string ⟨#[]⟩):=dG O rfl;have a7:w2.cell? ⟨nb,1,none⟩=some (int i64 m):=dG O rfl;have a8:w2.cell? ⟨nb,2,none⟩=some (int i64 m):=dG O rfl;go_upto_region 7 with(at_builtin;refine dP rfl (tmp 27) (tmp 29) 107 rfl _ _ (slice a1 (j+1) b1) w3 rfl rfl hr3 ?_);clear a6 a7 a8;clear hr3 O;have⟨g2,w4,hr4,o4,K4⟩:=ji (P:=prog) (w3.alloc (cells #[string ⟨#[]⟩,int i64 m,int i64 m,string ⟨#[]⟩,int i64 m,int i64 m] 111)) 107 111 i0 (agg #[string ⟨#[]⟩,int i64 0,int i64 0]) 3 32 underlying107 hi hz0 hz1 hz2 rfl aV B (slice E j j) j (wQ j m) (by exact ap.alloc _) F ⟨w3.heap.size,0,none⟩ 2 2 (wQ 2 m) (yW _ _) (by exact eZ _ (wQ 2 m) _) G3 aV wY oQ;rw[wR]at o4;obtain⟨a2,b2,rfl⟩:=bp o4;replace K4:Kp bA w3 w4:=((Kp.refl _ _).alloc _).trans K4;have Xr:=K4.at_ U_ (λx=>x);have aI:=K4.owns ap (λ_ _ x=>x);have p4:=K4.owns o3 (λ_ _ x=>x);have a9:w3.cell? ⟨nb,0,none⟩=some (string ⟨#[]⟩):=dG U_ rfl;have ba:w3.cell? ⟨nb,1,none⟩=some (int i64 m):=dG U_ rfl;have bb:w3.cell? ⟨nb,2,none⟩=some (int i64 m):=dG U_ rfl;go_upto_region 8 with(at_builtin;refine dP rfl (tmp 31) (tmp 34) 107 rfl _ _ (slice a2 (j+2) b2) w4 rfl rfl hr4 ?_);clear a9 ba bb;clear hr4 U_ o3;have⟨g3,w5,lM,o5,K5⟩:=ji (P:=prog) (w4.alloc (cells #[string ⟨#[]⟩,int i64 m,int i64 m,string ⟨#[]⟩,int i64 m,int i64 m,string ⟨#[]⟩,int i64 m,int i64 m] 111)) 107 111 i0 (agg #[string ⟨#[]⟩,int i64 0,int i64 0]) 3 32 underlying107 hi hz0 hz1 hz2 rfl aV B (slice E j j) j (wQ j m) (by exact aI.alloc _) F ⟨w4.heap.size,0,none⟩ 3 3 (wQ 3 m) (yW _ _) (by exact eZ _ (wQ 3 m) _) G3 aV wY oQ;rw[wR]at o5;obtain⟨a3,b3,rfl⟩:=bp o5;replace K5:Kp bA w4 w5:=((Kp.refl _ _).alloc _).trans K5;have a4:=K5.owns aI (λ_ _ x=>x);have p5:=K5.owns p4 (λ_ _ x=>x);have q5:=K5.owns o4 (λ_ _ x=>x);have bc:w4.cell? ⟨nb,0,none⟩=some (string ⟨#[]⟩):=dG Xr rfl;have be:w4.cell? ⟨nb,1,none⟩=some (int i64 m):=dG Xr rfl;have bg:w4.cell? ⟨nb,2,none⟩=some (int i64 m):=dG Xr rfl;go_upto_region 9 with(at_builtin;refine dP rfl (tmp 36) (tmp 40) 107 rfl _ _ (slice a3 (j+3) b3) w5 rfl rfl lM ?_);clear bc be bg;clear lM Xr o4 p4;have⟨J,Y,D,I,G⟩:=H1;have KT:Kp (λi=>(Value.slice E j j).ownBlock=some i) w1 w5:=((KA.trans' Z gM).trans' K4 gM).trans' K5 gM;have G5:=KT.at_ J (aZ D J aV);have rW:=KT.owns I (cJ I D aV);have aO:=KT.owns G (cJ G D aV);have a0:B<=w5.heap.size:=bz hB (bz Y.size KT.size);have ab:∀u∈([slice E j j,(slice a1 (j+1) b1),(slice a2 (j+2) b2),(slice a3 (j+3) b3)]:List Value),u.oneCell'=true:=by
   intro u hu;simp only[dB,gJ,gK]at hu;rcases hu with rfl|rfl|rfl|rfl
   ·rfl
   ·exact gC p5
   ·exact gC q5
   exact gC o5
  have⟨gn,cn,R,pe,o6,Xs,_⟩:=dJ (P:=prog) (w5.alloc (cells #[slice E j j,(slice a1 (j+1) b1),(slice a2 (j+2) b2),(slice a3 (j+3) b3)] 107)) B 75 75 107 i1 (slice none 0 0) 1 24 underlying75 hi1 hy0 hy1 hy2 rfl aV nv ls.length ls (by exact rW.alloc _) ⟨w5.heap.size,0,none⟩ 4 4 [slice E j j,(slice a1 (j+1) b1),(slice a2 (j+2) b2),(slice a3 (j+3) b3)] rfl (by exact eZ _ [slice E j j,(slice a1 (j+1) b1),(slice a2 (j+2) b2),(slice a3 (j+3) b3)] _) ab aV wY oQ il;have K6:Kp (λi=>nv.ownBlock=some i) w5 R:=((Kp.refl _ _).alloc (cells #[slice E j j,(slice a1 (j+1) b1),(slice a2 (j+2) b2),(slice a3 (j+3) b3)] 107)).grown (by exact Xs) (λi hi _=>hi);have uL:=K6.at_ G5 (aZ rW G5 aV);have c2:w5.cell? ⟨wb,2,none⟩=some nv:=dG G5 rfl;have d2:R.cell? ⟨wb,2,none⟩=some nv:=dG uL rfl;have f2:R.frozen? ⟨wb,2,none⟩=false:=by simp[World.frozen?,uL]
  have vf:(R.setCell ⟨wb,2,none⟩ (slice (some ⟨gn,0,none⟩) (ls.length+4) cn)).heap[wb]? =some (cells (OE sv iv (slice (some ⟨gn,0,none⟩) (ls.length+4) cn) mi mv (k+1)) 77 (0,0)):=by rw[ar _ uL];rfl
  have K7:Kp (λi=>i=wb) R (R.setCell ⟨wb,2,none⟩ (slice (some ⟨gn,0,none⟩) (ls.length+4) cn)):=(Kp.refl _ _).setCell jF _;have ue:∀{e:TypeId} {sz:Nat} {v:Value} {n:Nat} {X:List Value} {b:Nat},w5.ownsRow b e sz v n X->e≠107->e≠77->(R.setCell ⟨wb,2,none⟩ (slice (some ⟨gn,0,none⟩) (ls.length+4) cn)).ownsRow b e sz v n X:=λho h1 h2=>by
   have h6:=K6.owns ho (cJ ho rW h1);exact K7.owns h6 (λq hq e=>aZ h6 uL h2 (by rw[hq,e]))
  have Nr:=ue aO aV aV;have Q:=ue a4 aV aV;have p7:=ue p5 aV aV;have q7:=ue q5 aV aV;have r7:=ue o5 aV aV;have o7:=K7.owns o6 (λq hq e=>aZ o6 uL aV (by rw[hq,e]));have KX:Kp (λi=>i=wb\/nv.ownBlock=some i\/mv.ownBlock=some i\/(Value.slice E j j).ownBlock=some i) w (R.setCell ⟨wb,2,none⟩ (slice (some ⟨gn,0,none⟩) (ls.length+4) cn)):=(((Y.mono (λ_ _ e=>inl e)).trans' KT (λ_ _ e=>inr (inr (inr e)))).trans' K6 (λ_ _ e=>inr (inl e))).trans' K7 (λ_ _ e=>inl e);have Ns:B<=(R.setCell ⟨wb,2,none⟩ (slice (some ⟨gn,0,none⟩) (ls.length+4) cn)).heap.size:=bz hB KX.size;have H7:=xn vf Nr Q p7 q7 r7 (ae o7 (ae KX Ns));clear J Y D I G KT G5 rW aO a4 p5 q5 o5 ue o6 Xs uL K6 K7 H1 KA Z K4 K5 am ap aI vf Nr Q p7 q7 r7 o7 KX Ns ab F a0;go_upto_region 10 with(at_builtin;refine dP rfl (tmp 46) (tmp 51) 75 rfl _ _ (slice (some ⟨gn,0,none⟩) (ls.length+4) cn) R rfl rfl pe ?_);clear c2 d2 f2 pe;generalize R.setCell ⟨wb,2,none⟩ (slice (some ⟨gn,0,none⟩) (ls.length+4) cn)=w7 at*;have⟨vf,Nr,Q,p7,q7,r7,o7,KX,Ns⟩:=H7;clear H7;have⟨gm,cm,w8,hr8,o8,gr8,n8⟩:=dJ (P:=prog) (w7.alloc (cells #[int i64 m,int i64 m,int i64 m,int i64 m] 3)) B 38 38 3 i2 (int i64 0) 1 8 underlying38 hi2 hx0 hx1 hx2 rfl aV mv ms.length ms (by exact Nr.alloc _) ⟨w7.heap.size,0,none⟩ 4 4 [int i64 m,int i64 m,int i64 m,int i64 m] rfl (by exact eZ _ [int i64 m,int i64 m,int i64 m,int i64 m] _) Ki aV wY oQ il;have K8:Kp (λi=>mv.ownBlock=some i) w7 w8:=((Kp.refl _ _).alloc (cells #[int i64 m,int i64 m,int i64 m,int i64 m] 3)).grown (by exact gr8) (λi hi _=>hi);have Ad:=K8.at_ vf (aZ Nr vf aV);have c4:w7.cell? ⟨wb,4,none⟩=some mv:=dG vf rfl;have d4:w8.cell? ⟨wb,4,none⟩=some mv:=dG Ad rfl;have f4:w8.frozen? ⟨wb,4,none⟩=false:=by simp[World.frozen?,Ad]
  have Va:(w8.setCell ⟨wb,4,none⟩ (slice (some ⟨gm,0,none⟩) (ms.length+4) cm)).heap[wb]? =some (cells (OE sv iv (slice (some ⟨gn,0,none⟩) (ls.length+4) cn) mi (slice (some ⟨gm,0,none⟩) (ms.length+4) cm) (k+1)) 77 (0,0)):=by rw[ar _ Ad];rfl
  have K9:Kp (λi=>i=wb) w8 (w8.setCell ⟨wb,4,none⟩ (slice (some ⟨gm,0,none⟩) (ms.length+4) cm)):=(Kp.refl _ _).setCell jF _;have uf:∀{e:TypeId} {sz:Nat} {v:Value} {n:Nat} {X:List Value} {b:Nat},w7.ownsRow b e sz v n X->e≠3->e≠77->(w8.setCell ⟨wb,4,none⟩ (slice (some ⟨gm,0,none⟩) (ms.length+4) cm)).ownsRow b e sz v n X:=λho h1 h2=>by
   have h6:=K8.owns ho (cJ ho Nr h1);exact K9.owns h6 (λq hq e=>aZ h6 Ad h2 (by rw[hq,e]))
  have HQ:=ag (show Z1 w (w8.setCell ⟨wb,4,none⟩ (slice (some ⟨gm,0,none⟩) (ms.length+4) cm)) wb B sv iv mi nv mv (slice E j j) k j ls ms from⟨(slice (some ⟨gn,0,none⟩) (ls.length+4) cn),(slice (some ⟨gm,0,none⟩) (ms.length+4) cm),(slice a1 (j+1) b1),(slice a2 (j+2) b2),(slice a3 (j+3) b3),Va,uf o7 aV aV,by rw[HM];exact K9.owns o8 (λq hq e=>aZ o8 Ad aV (by rw[hq,e])),by rw[HM];exact cH (uf Q aV aV) (aA _),by rw[HM];exact cH (uf p7 aV aV) (aA _),by rw[HM];exact cH (uf q7 aV aV) (aA _),by rw[HM];exact cH (uf r7 aV aV) (aA _),(KX.trans' K8 (λ_ _ e=>inr (inr (inl e)))).trans' K9 (λ_ _ e=>inl e),λb hb=>by
   obtain rfl:gm=b:=by simpa[Value.ownBlock]using hb
   exact n8.imp id (λe=>bz KX.size (bz ((Kp.refl bA w7).alloc _).size e))⟩)
  clear uf Va K9 K8 Ad o8 gr8 KX Nr Q p7 q7 r7 o7 vf n8;go_wp2_with (at_builtin;refine dP rfl (tmp 59) (tmp 64) 38 rfl _ _ (slice (some ⟨gm,0,none⟩) (ms.length+4) cm) w8 rfl rfl hr8 ?_);go_end0
  exact⟨rfl,HQ⟩
end
def LsE(w:World)(e:Value×Nat×Int):Prop:=w.ownsRow 0 111 3 e.1 e.2.1 (wQ e.2.1 e.2.2)/\e.2.1<=2000
theorem Z2{n i m}(h:i<n):(wQ n m)[i*3]? =some (string ⟨#[]⟩)/\(wQ n m)[i*3+1]? =some (int i64 m)/\(wQ n m)[i*3+2]? =some (int i64 m):=by
 obtain⟨k,rfl⟩:∃k,n=i+(1+k):=⟨n-i-1,oQ⟩
 rw[<-wR,<-wR];have D:=yW i m;have E:wQ 1 m=[string ⟨#[]⟩,int i64 m,int i64 m]:=rfl;rw[E];refine⟨?_,?_,?_⟩
 ·rw[iy oQ,D];simp
 ·rw[iy oQ,D];simp
 rw[iy oQ,D];simp
structure Sx where
 b:Nat
 xb:Nat
 tb:Nat
 pc:Pc
 ol:Ol
 x:Sv
 kv:Value
 p:Rl
 av:Value
 all:List Sd
 log:ByteArray
 t:ByteArray
def Nt(s:Sx)(k:Nat):Prop:=k=s.b\/Aq s.xb s.tb s.kv k\/C3 s.p s.av k
structure C_(W:World)(s:Sx):Prop where
 pair:W.heap[s.b]? =some (cells #[pointer (some ⟨s.xb,0,none⟩),pointer (some ⟨s.p.yb,0,none⟩)] 181 (0,0))
 sv:gF W s.xb s.tb 138 s.pc s.ol s.x s.kv
 rv:kL W s.p s.ol s.x s.all s.log s.av
 si:SI s.ol s.x s.all s.log
 rd:Fj s.t s.ol
def G6(T:TypeId):Prop:=T=138\/T=173\/T=261
def G7(T:TypeId):Prop:=T=234\/T=236\/T=26
theorem uV{W:World}{i:Nat}{c}{E}{T}{D}(h:W.heap[i]? =some (cells c T (0,0)))(F:W.heap[i]? =some (cells E D (0,0))):T=D:=by
 simp_all
section
variable {W W1 W2:World} {s:Sx}
theorem gF.kd{xb tb pc ol x kv}(h:gF W xb tb 138 pc ol x kv){k}(hk:Aq xb tb kv k):∃c T,W.heap[k]? =some (cells c T (0,0))/\G6 T:=by
 rcases hk with rfl|rfl|e
 ·exact⟨_,_,h.cj,inl rfl⟩
 ·exact⟨_,_,h.uS,inr (inl rfl)⟩
 have⟨c,hc⟩:=bC h.row e;exact⟨_,_,hc,inr (inr rfl)⟩
theorem kL.kd{p ol x all log av}(h:kL W p ol x all log av){k}(hk:C3 p av k):∃c T,W.heap[k]? =some (cells c T (0,0))/\G7 T:=by
 rcases hk with rfl|rfl|e
 ·exact⟨_,_,h.cj,inl rfl⟩
 ·exact⟨_,_,h.JV,inr (inl rfl)⟩
 have⟨c,hc⟩:=bC h.row e;exact⟨_,_,hc,inr (inr rfl)⟩
theorem C_.kd(h:C_ W s){k}(hk:Nt s k):∃c T,W.heap[k]? =some (cells c T (0,0))/\(T=181\/G6 T\/G7 T):=by
 rcases hk with rfl|e|e
 ·exact⟨_,_,h.pair,inl rfl⟩
 ·have⟨c,T,h1,h2⟩:=h.sv.kd e;grind
 have⟨c,T,h1,h2⟩:=h.rv.kd e;grind
theorem C_.low(h:C_ W s){k}(hk:Nt s k):k<W.heap.size:=by
 have⟨c,T,h1,_⟩:=h.kd hk;grind
theorem C_.apart(h:C_ W s){i}{c}{T}(hi:W.heap[i]? =some (cells c T (0,0)))(D:Fp T\/He T):¬Nt s i:=λhk=>by
 have⟨c',T',h1,h2⟩:=h.kd hk;have:=uV hi h1;subst this;revert D h2;unfold Fp He G6 G7;rintro((rfl|rfl|rfl|rfl)|(rfl|rfl|rfl|rfl))<;>decide
theorem C_.aB{S}(h:C_ W s)(K:Kp S W W1)(D:∀k,Nt s k->¬S k)(E:∀i c T,W.heap[i]? =some (cells c T (0,0))->Fp T\/He T->¬S i):C_ W1 s:=
 ⟨K.at_ h.pair (D _ (inl rfl)),h.sv.aB K (D _ (inr (inl (inl rfl)))) (D _ (inr (inl (inr (inl rfl))))) (λk e=>D k (inr (inl (inr (inr e))))) (λi c T hi hT=>E i c T hi (inl hT)),
  h.rv.aB K (λk e=>D k (inr (inr e))) (λi c T hi hT=>E i c T hi (inr hT)),h.si,h.rd⟩
theorem C_.aw(h:C_ W s)(K:Kp bA W W1):C_ W1 s:=h.aB K (λ_ _ x=>x) (λ_ _ _ _ _ x=>x)
theorem C_.pO{S}(h:C_ W s)(K:Kp S W W1)(D:∀k,S k->∀c T,W.heap[k]? =some (cells c T (0,0))->¬(T=181\/G6 T\/G7 T)/\¬(Fp T\/He T)):C_ W1 s:=
 h.aB K (λk hk hs=>by have⟨c,T,h1,h2⟩:=h.kd hk;exact(D k hs c T h1).1 h2) (λi c T hi hT hs=>(D i hs c T hi).2 hT)
theorem C_.Aj(h:C_ W s)(K:Kp (Aq s.xb s.tb s.kv) W W1):kL W1 s.p s.ol s.x s.all s.log s.av/\W1.heap[s.b]? =some (cells #[pointer (some ⟨s.xb,0,none⟩),pointer (some ⟨s.p.yb,0,none⟩)] 181 (0,0)):=by
 have D:∀{i:Nat} {c:Array Value} {T:TypeId},W.heap[i]? =some (cells c T (0,0))->T=181\/G7 T\/He T->¬Aq s.xb s.tb s.kv i:=λ {i c T} hi hT hk=>by
  have⟨c',T',h1,h2⟩:=h.sv.kd hk;grind[uV,G6,G7,He]
 exact⟨h.rv.aB K (λk hk=>by have⟨c,T,h1,h2⟩:=h.rv.kd hk;exact D h1 (inr (inl h2))) (λi c T hi hT=>D hi (inr (inr hT))),K.at_ h.pair (D h.pair (inl rfl))⟩
def SxQ(W W2:World)(s:Sx)(x':Sv)(D:List Sd)(log':ByteArray):Prop:=∃E F,C_ W2 {s with x:=x',kv:=E,av:=F,all:=D,log:=log'}/\(∀k,Nt {s with x:=x',kv:=E,av:=F,all:=D,log:=log'} k->Nt s k\/W.heap.size<=k)/\Kp (Nt s) W W2
theorem C_.step(h:C_ W s){x'}{D}{log'}(I:jh W W1 s.xb s.tb 138 s.pc s.ol s.kv x')(J:lI W1 W2 s.p s.ol s.av x' D log')(G:SI s.ol x' D log'):SxQ W W2 s x' D log':=by
 have⟨rj,h1,n1,K1⟩:=I;have⟨r1,p1⟩:=h.Aj K1;have⟨z9,h2,n2,K2⟩:=J;have F:∀{i:Nat} {c:Array Value} {T:TypeId},W1.heap[i]? =some (cells c T (0,0))->T=181\/G6 T\/Fp T->¬C3 s.p s.av i:=λ {i c T} hi hT hk=>by
  have⟨c',T',e1,e2⟩:=r1.kd hk;grind[uV,G6,G7,Fp]
 have E:∀k,Aq s.xb s.tb rj k->¬C3 s.p s.av k:=λk hk=>by have⟨c,T,e1,e2⟩:=h1.kd hk;exact F e1 (inr (inl e2))
 refine⟨rj,z9,⟨K2.at_ p1 (F p1 (inl rfl)),h1.aB K2 (E _ (inl rfl)) (E _ (inr (inl rfl))) (λk e=>E k (inr (inr e))) (λi c T hi hT=>F hi (inr (inr hT))),h2,G,h.rd⟩,?_,?_⟩
 ·rintro k (e|(e|e|e)|(e|e|e))
  ·exact inl (inl e)
  ·exact inl (inr (inl (inl e)))
  ·exact inl (inr (inl (inr (inl e))))
  ·exact(n1 k e).imp (λe=>inr (inl (inr (inr e)))) id
  ·exact inl (inr (inr (inl e)))
  ·exact inl (inr (inr (inr (inl e))))
  exact(n2 k e).imp (λe=>inr (inr (inr (inr e)))) (bz K1.size)
 exact(K1.mono (S':=Nt s) (λ_ _ e=>inr (inl e))).trans' K2 (λ_ _ e=>inr (inr e))
end
def LiE(W:World)(B:Nat)(mv:Value)(e:Value×Nat×Int):Prop:=W.ownsRow B 3 1 e.1 e.2.1 (List.replicate e.2.1 (int i64 e.2.2))/\e.2.1<=2000/\∀b,e.1.ownBlock=some b->mv.ownBlock≠some b
structure NzB(W:World)(B:Nat)(nv qv mv:Value)(es en:List (Value×Nat×Int)):Prop where
 nor:W.ownsRow B 107 1 nv en.length (en.map (·.1))
 RB:W.ownsRow B 3 1 qv en.length (en.map λe=>int i64 e.2.2)
 Xt:∀e∈en,LsE W e
 nm:∀b,qv.ownBlock=some b->mv.ownBlock≠some b/\∀e∈es,e.1.ownBlock≠some b
theorem NzB.aB{W W' B nv qv mv es en}(h:NzB W B nv qv mv es en)(own:∀{e} {sz} {v} {n} {D} {b},W.ownsRow b e sz v n D->e=107\/e=3\/e=111->W'.ownsRow b e sz v n D):NzB W' B nv qv mv es en:=
 ⟨own h.nor (inl rfl),own h.RB (inr (inl rfl)),λe he=>⟨own (h.Xt e he).1 (inr (inr rfl)),(h.Xt e he).2⟩,h.nm⟩
structure xm(W:World)(B wb:Nat)(nv qv:Value)(N M:Nat)(Ss:List Sx)(sv iv mv:Value)(es:List (Value×Nat×Int))(k:Int):Prop where
 cj:W.heap[wb]? =some (cells (OE sv iv nv mv qv k) 77 (0,0))
 Hg:W.ownsRow B 140 1 sv Ss.length (Ss.map λs=>pointer (some ⟨s.b,0,none⟩))
 sb:∀(i:Nat) (s:Sx),Ss[i]? =some s->C_ W s
 Xu:∀(i j:Nat) (a b:Sx),Ss[i]? =some a->Ss[j]? =some b->i≠j->∀k,Nt a k->¬Nt b k
 lo:∀(i:Nat) (s:Sx),Ss[i]? =some s->∀k,Nt s k->B<=k
 bd:∀(i:Nat) (s:Sx),Ss[i]? =some s->s.all.length<=N+1/\s.log.size<=10000000000+6000000*N/\s.x.bj<=N
 sl:Ss.length<=N
 inr:W.ownsRow B 38 1 iv es.length (es.map (·.1))
 KI:W.ownsRow B 3 1 mv es.length (es.map λe=>int i64 e.2.2)
 ph:∀e∈es,LiE W B mv e
 k0:0<=k
 kM:k<=M
 eM:es.length+4*Ss.length<=4*M
 hB:B<=wb
 nd:∃en,en.length<=4*M/\NzB W B nv qv mv es en
section
variable {W W1:World} {B wb:Nat} {nv qv:Value} {N M:Nat} {Ss:List Sx} {sv iv mv:Value} {es:List (Value×Nat×Int)} {k:Int}
theorem xm.aw(h:xm W B wb nv qv N M Ss sv iv mv es k)(K:Kp bA W W1):xm W1 B wb nv qv N M Ss sv iv mv es k:=
 ⟨K.at_ h.cj (λx=>x),K.owns h.Hg (λ_ _ x=>x),λi s hs=>(h.sb i s hs).aw K,h.Xu,h.lo,h.bd,h.sl,K.owns h.inr (λ_ _ x=>x),K.owns h.KI (λ_ _ x=>x),λe he=>⟨K.owns (h.ph e he).1 (λ_ _ x=>x),(h.ph e he).2⟩,h.k0,h.kM,h.eM,h.hB,by have⟨en,l,n⟩:=h.nd;exact⟨en,l,n.aB λo _=>K.owns o (λ_ _ x=>x)⟩⟩
theorem xm.up(h:xm W B wb nv qv N M Ss sv iv mv es k){E}{D}(F:N<=E)(G:M<=D):xm W B wb nv qv E D Ss sv iv mv es k:=
 ⟨h.cj,h.Hg,h.sb,h.Xu,h.lo,λi s hs=>by have⟨a,b,c⟩:=h.bd i s hs;have:=Nat.mul_le_mul_left 6000000 F;exact⟨oQ,oQ,oQ⟩,bz h.sl F,h.inr,h.KI,h.ph,h.k0,by have:=h.kM;omega,by have:=h.eM;omega,h.hB,by have⟨en,l,n⟩:=h.nd;exact⟨en,oQ,n⟩⟩
theorem xm.cell(h:xm W B wb nv qv N M Ss sv iv mv es k)j:W.cell? ⟨wb,j,none⟩=(OE sv iv nv mv qv k)[j]?:=by rw[World.cell?,h.cj];rfl
theorem xm.served(h:xm W B wb nv qv N M Ss sv iv mv es k){i:Nat}{s}(hi:Ss[i]? =some s){x'}{E}{log'}(q:SxQ W W1 s x' E log')(hb:B<=W.heap.size)(b1:E.length<=s.all.length+1)(b2:log'.size<=s.log.size+6000000)(b3:x'.bj<=s.x.bj+1):
 (∃Yl,xm W1 B wb nv qv (N+1) M Yl sv iv mv es k)/\Kp (λk=>B<=k) W W1:=by
 have⟨rj,z9,h1,n1,K1⟩:=q;have U:=h.sb i s hi;have O:=(aM.1 hi).1;have Q:∀{b:Nat} {c:Array Value} {T:TypeId},W.heap[b]? =some (cells c T (0,0))->¬(T=181\/G6 T\/G7 T)->¬Nt s b:=λ {b c T} hb hT hk=>by
  have⟨c',T',e1,e2⟩:=U.kd hk;have:=uV hb e1;subst this;exact hT e2
 have own:∀{e:TypeId} {sz:Nat} {v:Value} {n:Nat} {Z:List Value} {b:Nat},W.ownsRow b e sz v n Z->¬(e=181\/G6 e\/G7 e)->W1.ownsRow b e sz v n Z:=λho he=>K1.owns ho (λq G=>by have⟨c,hc⟩:=bC ho G;exact Q hc he);have get:∀{j:Nat} {a:Sx},(Ss.set i {s with x:=x',kv:=rj,av:=z9,all:=E,log:=log'})[j]? =some a->(j=i/\a={s with x:=x',kv:=rj,av:=z9,all:=E,log:=log'})\/(j≠i/\Ss[j]? =some a):=λ {j a} D=>by
  rw[List.getElem?_set]at D;by_cases e:i=j
  ·rw[aq e,aq O]at D;simp at D;exact .inl ⟨e.symm,D.symm⟩
  rw[ax e]at D;exact .inr ⟨λx=>e x.symm,D⟩
 refine⟨⟨Ss.set i {s with x:=x',kv:=rj,av:=z9,all:=E,log:=log'},?_⟩,K1.mono (λk _ e=>h.lo i s hi k e)⟩;refine⟨K1.at_ h.cj (Q h.cj (by unfold G6 G7;decide)),?_,?_,?_,?_,?_,by rw[j_];have:=h.sl;omega,own h.inr (by unfold G6 G7;decide),own h.KI (by unfold G6 G7;decide),λe he=>⟨own (h.ph e he).1 (by unfold G6 G7;decide),(h.ph e he).2⟩,h.k0,h.kM,by rw[j_];exact h.eM,h.hB,by have⟨en,l,n⟩:=h.nd;exact⟨en,l,n.aB λo e=>own o (by unfold G6 G7;rcases e with rfl|rfl|rfl<;>decide)⟩⟩
 ·have:=own h.Hg (by unfold G6 G7;decide);rw[j_,List.map_set];have e:(Ss.map λs=>Value.pointer (some ⟨s.b,0,none⟩)).set i (pointer (some ⟨s.b,0,none⟩))=Ss.map λs=>Value.pointer (some ⟨s.b,0,none⟩):=by
   apply f_;intro j;rw[List.getElem?_set];split
   ·rename_i e;subst e;rw[bD,hi,aq (cX O)];rfl
   rfl
  rw[e];exact this
 ·intro j a D;rcases get D with⟨rfl,rfl⟩|⟨ne,D⟩
  ·exact h1
  exact(h.sb j a D).aB K1 (h.Xu j i a s D hi ne) (λi c T hi hT=>U.apart hi hT)
 ·intro j l a c D X ne q G F;rcases get D with⟨ej,ea⟩|⟨R,J⟩
  ·rcases get X with⟨el,_⟩|⟨Y,I⟩
   ·exact ne (ej.trans el.symm)
   rw[ea]at G;rcases n1 q G with e|e
   ·exact h.Xu i l s c hi I (λx=>Y x.symm) q e F
   have:=(h.sb l c I).low F;omega
  rcases get X with⟨el,ec⟩|⟨Y,I⟩
  ·rw[ec]at F;rcases n1 q F with e|e
   ·exact h.Xu j i a s J hi R q G e
   have:=(h.sb j a J).low G;omega
  exact h.Xu j l a c J I ne q G F
 ·intro j a D q G;rcases get D with⟨rfl,rfl⟩|⟨R,D⟩
  ·rcases n1 q G with e|e
   ·exact h.lo j s hi q e
   omega
  exact h.lo j a D q G
 intro j a D;rw[Nat.mul_succ];rcases get D with⟨rfl,rfl⟩|⟨R,D⟩
 ·have⟨a1,a2,a3⟩:=h.bd j s hi;have c1:E.length<=N+1+1:=oQ;have c2:log'.size<=10000000000+(6000000*N+6000000):=bz b2 (by have:=Nat.add_le_add_right a2 6000000;rw[oe]at this;exact this);have c3:x'.bj<=N+1:=oQ;exact⟨c1,c2,c3⟩
 have⟨a1,a2,a3⟩:=h.bd j a D;exact⟨oQ,bz a2 (by rw[<-oe];exact Nat.le_add_right _ _),oQ⟩
end
def xW(n:Nat)(m:Int):List Value:=List.replicate n (int i64 m)
theorem Bm{n k m}:xW n m++xW k m=xW (n+k) m:=List.replicate_append_replicate
theorem Bn{n m}:∀u∈xW n m,u.oneCell'=true:=λu hu=>by rw[List.eq_of_mem_replicate hu];rfl
theorem Vb:(prog.info? 38).map (λi=>(i.zero,i.size,i.bytes))=some (some (slice none 0 0),1,24):=bZ
theorem Xv{n j m}{D:List Value}(F:D.length=n)(E:j<n):(xW j m++D.drop j).set j (int i64 m)=xW (j+1) m++D.drop (j+1):=by
 have e:D.drop j=D[j]'oQ::D.drop (j+1):=eR oQ;rw[e,nW _ _ (by simp[xW]),<-Bm,jL,show j-(xW j m).length=0 by simp[xW]];rfl
structure OiQ(w w':World)B(wb:Nat)sv(iv:Value)nv(mv:Value)qv v k n ls ms OF mv' g1 g2 g3:Prop where
 cj:w'.heap[wb]? =some (cells (OE sv OF nv mv' qv (k+1)) 77 (0,0))
 inr:w'.ownsRow B 38 1 OF (ls.length+4) (ls++[v,g1,g2,g3])
 KI:w'.ownsRow B 3 1 mv' (ms.length+4) (ms++xW 4 (-(k+1)))
 e0:w'.ownsRow B 3 1 v n (xW n (-(k+1)))
 e1:w'.ownsRow w.heap.size 3 1 g1 (n+1) (xW (n+1) (-(k+1)))
 e2:w'.ownsRow w.heap.size 3 1 g2 (n+2) (xW (n+2) (-(k+1)))
 e3:w'.ownsRow w.heap.size 3 1 g3 (n+3) (xW (n+3) (-(k+1)))
 K:Kp (λi=>i=wb\/iv.ownBlock=some i\/mv.ownBlock=some i\/v.ownBlock=some i) w w'
 mvn:∃H,w.heap.size<=H/\(∀b,mv'.ownBlock=some b->mv.ownBlock=some b\/H<=b)/\∀b,g1.ownBlock=some b\/g2.ownBlock=some b\/g3.ownBlock=some b->b<H
theorem Ke w wb B sv iv nv mv qv v k n R ls ms(h:w.heap[wb]? =some (cells (OE sv iv nv mv qv k) 77 (0,0)))(h0:0<=k)(h1:k<=4000000000000)(hv:w.ownsRow B 3 1 v n R)(ad:∀D c,v= slice D n c->c=n)(hn:n<=1000)(am:w.ownsRow B 38 1 iv ls.length ls)(aa:w.ownsRow B 3 1 mv ms.length ms)(bi:ls.length<=4000000000000)(bk:ms.length<=4000000000000)(hB:B<=w.heap.size)(E:∀b,v.ownBlock=some b->mv.ownBlock≠some b):
 Calls prog 109 #[pointer (some ⟨wb,0,none⟩),v] w λx w'=>x=returned (tuple #[])/\∃OF mv' g1 g2 g3,OiQ w w' B wb sv iv nv mv qv v k n ls ms OF mv' g1 g2 g3:=by
 have⟨i1,hi1,hy0,hy1,hy2⟩:=cr Vb;have⟨i2,hi2,hx0,hx1,hx2⟩:=cr nI;have E1:=ag (Kd w wb k h rfl h0 h1);have I:(w.setCell ⟨wb,5,none⟩ (int i64 (k+1))).heap[wb]? =some (cells (OE sv iv nv mv qv (k+1)) 77 (0,0)):=by rw[ar _ h];rfl
 have J:Kp (λi=>i=wb) w (w.setCell ⟨wb,5,none⟩ (int i64 (k+1))):=(Kp.refl _ _).setCell jF _;have G:=J.owns hv (λj hj e=>aZ hv h aV (by rw[hj,e]));have aS:=J.owns am (λj hj e=>aZ am h aV (by rw[hj,e]));have O:=J.owns aa (λj hj e=>aZ aa h aV (by rw[hj,e]));have a7:=ag (show∀b,mv.ownBlock=some b->b<w.heap.size from λb hb=>(aa.lt b hb).2);have bc:R.length=n:=by have:=hv.1;omega
 obtain⟨D,ac,rfl⟩:=bp hv;have F:=(ad D ac rfl).symm;subst F;have H1:=Hi I J G aS O E;clear I J G aS O h hv am aa ad E;go_in;go_wp;refine b9 E1 ?_;intro w1 e1;rw[e1];clear e1 w1 E1;generalize w.setCell ⟨wb,5,none⟩ (int i64 (k+1))=w1 at*;generalize a4: -(k+1)=m at*;have HM:=ag a4;clear a4;go_wp21;go_loopw [5] (λiv wr=>∃j:Nat,iv= int i64 j/\j<=n/\Hid (wr.ownsRow B 3 1 (slice D n n) n (xW j m++R.drop j))/\Kp (λi=>(Value.slice D n n).ownBlock=some i) w1 wr) (λiv _=>n-(intOf iv).toNat)
 case atStart=>exact⟨0,rfl,aA _,ag (by simpa[xW]using H1.2.2.1),Kp.refl _ _⟩
 case round=>
  obtain⟨j,rfl,hj,HO,KW⟩:=hrel;by_cases bb:j<n
  ·have be:(j:Int)<n:=oQ;have⟨g,cap',hv',_⟩:=cO HO oQ;simp only[aH]at hv';obtain⟨rfl,-,-⟩:=hv';have ba:=HO.1;obtain⟨v0,c0⟩:∃u,wr.cell? ⟨g,j,none⟩=some u:=⟨_,(bK HO j oQ).trans (au oQ)⟩
   have f0:=World.ownsRow.frozenAt HO j;have X:=(World.ownsRow.stored HO j (int i64 m)).1;rw[Xv bc bb]at X;have U:=KW.setCell (p:=⟨g,j,none⟩) (λ_=>rfl) (int i64 m);have HZ:=bw X U;clear X U HO KW ba;go_wp2;exact⟨⟨j+1,eb,oQ,ag HZ.1,HZ.2⟩,ew⟩
  have bg:¬(j:Int)<n:=oQ;obtain rfl:j=n:=oQ;have ap:wr.ownsRow B 3 1 (slice D j j) j (xW j m):=by
   have:=HO;rw[dA oQ,iz]at this;exact this
  have F:∀a9 c,Value.slice D j j= slice a9 j c->c=j:=λ_ _ e=>by injection e with _ _ e;exact e.symm
  clear HO;have⟨g1,w3,hr3,X,U⟩:=ji (P:=prog) (wr.alloc (cells #[int i64 m] 3)) 38 3 i2 (int i64 0) 1 8 underlying38 hi2 hx0 hx1 hx2 rfl aV B (slice D j j) j (xW j m) (by exact ap.alloc _) F ⟨wr.heap.size,0,none⟩ 1 1 (xW 1 m) rfl (by exact eZ _ (xW 1 m) _) Bn aV wY oQ;rw[Bm]at X;obtain⟨a1,b1,rfl⟩:=bp X;have s3:wr.heap.size<=(wr.alloc (cells #[int i64 m] 3)).heap.size:=((Kp.refl bA wr).alloc _).size;replace X:=cH X s3;replace U:Kp bA wr w3:=((Kp.refl _ _).alloc _).trans U;have aI:=U.owns ap (λ_ _ x=>x);go_upto_region 6 with(at_builtin;refine dP rfl (tmp 21) (tmp 23) 38 rfl _ _ (slice a1 (j+1) b1) w3 rfl rfl hr3 ?_);clear hr3 s3;have⟨g2,w4,hr4,o4,K4⟩:=ji (P:=prog) (w3.alloc (cells #[int i64 m,int i64 m] 3)) 38 3 i2 (int i64 0) 1 8 underlying38 hi2 hx0 hx1 hx2 rfl aV B (slice D j j) j (xW j m) (by exact aI.alloc _) F ⟨w3.heap.size,0,none⟩ 2 2 (xW 2 m) rfl (by exact eZ _ (xW 2 m) _) Bn aV wY oQ;rw[Bm]at o4;obtain⟨a2,b2,rfl⟩:=bp o4;have s4:w3.heap.size<=(w3.alloc (cells #[int i64 m,int i64 m] 3)).heap.size:=((Kp.refl bA w3).alloc _).size;replace o4:=cH o4 s4;replace K4:Kp bA w3 w4:=((Kp.refl _ _).alloc _).trans K4;have aO:=K4.owns aI (λ_ _ x=>x);go_upto_region 7 with(at_builtin;refine dP rfl (tmp 25) (tmp 28) 38 rfl _ _ (slice a2 (j+2) b2) w4 rfl rfl hr4 ?_);clear hr4 s4;have⟨g3,w5,lM,Y,K5⟩:=ji (P:=prog) (w4.alloc (cells #[int i64 m,int i64 m,int i64 m] 3)) 38 3 i2 (int i64 0) 1 8 underlying38 hi2 hx0 hx1 hx2 rfl aV B (slice D j j) j (xW j m) (by exact aO.alloc _) F ⟨w4.heap.size,0,none⟩ 3 3 (xW 3 m) rfl (by exact eZ _ (xW 3 m) _) Bn aV wY oQ;rw[Bm]at Y;obtain⟨a3,b3,rfl⟩:=bp Y;have s5:w4.heap.size<=(w4.alloc (cells #[int i64 m,int i64 m,int i64 m] 3)).heap.size:=((Kp.refl bA w4).alloc _).size;replace Y:=cH Y s5;replace K5:Kp bA w4 w5:=((Kp.refl _ _).alloc _).trans K5;have a6:=K5.owns aO (λ_ _ x=>x);go_upto_region 8 with(at_builtin;refine dP rfl (tmp 30) (tmp 34) 38 rfl _ _ (slice a3 (j+3) b3) w5 rfl rfl lM ?_);clear lM s5;have⟨I,J,G,hn1,O,E⟩:=H1;have p5:=(K4.trans K5).owns X (λ_ _ x=>x);have q5:=K5.owns o4 (λ_ _ x=>x);have KT:=((KW.trans' U gM).trans' K4 gM).trans' K5 gM;have G5:=KT.at_ I (aZ G I aV);have rW:=KT.owns hn1 (cJ hn1 G aV);have a0:=KT.owns O (λq hq e=>E q e hq);have z1:=bz J.size KW.size;replace p5:=cH p5 z1;replace q5:=cH q5 (bz z1 U.size);replace Y:=cH Y (bz z1 (bz U.size K4.size));have a5:=bz hB (bz J.size KT.size);have a8:=bz J.size KT.size;have Xw:∀b,(Value.slice a1 (j+1) b1).ownBlock=some b\/(Value.slice a2 (j+2) b2).ownBlock=some b\/(Value.slice a3 (j+3) b3).ownBlock=some b->b<w5.heap.size:=λb hb=>by
   rcases hb with e|e|e
   ·exact(p5.lt b e).2
   ·exact(q5.lt b e).2
   exact(Y.lt b e).2
  have aj:∀u∈([slice D j j,(slice a1 (j+1) b1),(slice a2 (j+2) b2),(slice a3 (j+3) b3)]:List Value),u.oneCell'=true:=by
   intro u hu;simp only[dB,gJ,gK]at hu;rcases hu with rfl|rfl|rfl|rfl
   ·rfl
   ·exact gC p5
   ·exact gC q5
   exact gC Y
  have⟨gn,cn,w6,pe,o6,Xs,_⟩:=dJ (P:=prog) (w5.alloc (cells #[slice D j j,(slice a1 (j+1) b1),(slice a2 (j+2) b2),(slice a3 (j+3) b3)] 38)) B 74 74 38 i1 (slice none 0 0) 1 24 underlying74 hi1 hy0 hy1 hy2 rfl aV iv ls.length ls (by exact rW.alloc _) ⟨w5.heap.size,0,none⟩ 4 4 [slice D j j,(slice a1 (j+1) b1),(slice a2 (j+2) b2),(slice a3 (j+3) b3)] rfl (by exact eZ _ [slice D j j,(slice a1 (j+1) b1),(slice a2 (j+2) b2),(slice a3 (j+3) b3)] _) aj aV wY oQ il;have K6:=((Kp.refl _ _).alloc (cells #[slice D j j,(slice a1 (j+1) b1),(slice a2 (j+2) b2),(slice a3 (j+3) b3)] 38)).grown (by exact Xs) (λi hi _=>hi);have uL:=K6.at_ G5 (aZ rW G5 aV);have c2:w5.cell? ⟨wb,1,none⟩=some iv:=dG G5 rfl;have d2:w6.cell? ⟨wb,1,none⟩=some iv:=dG uL rfl;have f2:w6.frozen? ⟨wb,1,none⟩=false:=by simp[World.frozen?,uL]
  have vf:(w6.setCell ⟨wb,1,none⟩ (slice (some ⟨gn,0,none⟩) (ls.length+4) cn)).heap[wb]? =some (cells (OE sv (slice (some ⟨gn,0,none⟩) (ls.length+4) cn) nv mv qv (k+1)) 77 (0,0)):=by rw[ar _ uL];rfl
  have K7:Kp (λi=>i=wb) w6 (w6.setCell ⟨wb,1,none⟩ (slice (some ⟨gn,0,none⟩) (ls.length+4) cn)):=(Kp.refl _ _).setCell jF _;have ue:∀{e:TypeId} {sz:Nat} {v:Value} {n:Nat} {R:List Value} {b:Nat},w5.ownsRow b e sz v n R->e≠38->e≠77->(w6.setCell ⟨wb,1,none⟩ (slice (some ⟨gn,0,none⟩) (ls.length+4) cn)).ownsRow b e sz v n R:=λho h1 h2=>by
   have h6:=K6.owns ho (cJ ho rW h1);exact K7.owns h6 (λq hq e=>aZ h6 uL h2 (by rw[hq,e]))
  have Nr:=ue a0 aV aV;have Q:=ue a6 aV aV;have p7:=ue p5 aV aV;have q7:=ue q5 aV aV;have r7:=ue Y aV aV;have o7:=K7.owns o6 (λq hq e=>aZ o6 uL aV (by rw[hq,e]));have KX:Kp (λi=>i=wb\/iv.ownBlock=some i\/mv.ownBlock=some i\/(Value.slice D j j).ownBlock=some i) _ _:=(((J.mono (λ_ _ e=>inl e)).trans' KT (λ_ _ e=>inr (inr (inr e)))).trans' K6 (λ_ _ e=>inr (inl e))).trans' K7 (λ_ _ e=>inl e);have Ns:=bz hB KX.size;have Xx:=bz K6.size K7.size;have ab:=a7.out;have H7:=xn vf Nr Q p7 q7 r7 (ae o7 (ae KX (ae Ns (ae Xw (ae Xx (ae E ab))))));clear I J G hn1 O KT G5 rW a0 a6 p5 q5 Y ue o6 Xs uL K6 K7 H1 U K4 K5 ap aI aO vf Nr Q p7 q7 r7 o7 KX Ns aj F a5 X o4 KW Xw Xx E ab z1;go_upto_region 9 with(at_builtin;refine dP rfl (tmp 40) (tmp 45) 74 rfl _ _ (slice (some ⟨gn,0,none⟩) (ls.length+4) cn) w6 rfl rfl pe ?_);clear c2 d2 f2 pe;generalize w6.setCell ⟨wb,1,none⟩ (slice (some ⟨gn,0,none⟩) (ls.length+4) cn)=w7 at*;have⟨vf,Nr,Q,p7,q7,r7,o7,KX,Ns,Xw,Xx,E,ab⟩:=H7;clear H7;have⟨gm,cm,w8,hr8,o8,gr8,n8⟩:=dJ (P:=prog) (w7.alloc (cells #[int i64 m,int i64 m,int i64 m,int i64 m] 3)) B 38 38 3 i2 (int i64 0) 1 8 underlying38 hi2 hx0 hx1 hx2 rfl aV mv ms.length ms (by exact Nr.alloc _) ⟨w7.heap.size,0,none⟩ 4 4 (xW 4 m) rfl (by exact eZ _ (xW 4 m) _) Bn aV wY oQ il;have K8:=((Kp.refl _ _).alloc (cells #[int i64 m,int i64 m,int i64 m,int i64 m] 3)).grown (by exact gr8) (λi hi _=>hi);have Ad:=K8.at_ vf (aZ Nr vf aV);have c4:w7.cell? ⟨wb,3,none⟩=some mv:=dG vf rfl;have d4:w8.cell? ⟨wb,3,none⟩=some mv:=dG Ad rfl;have f4:w8.frozen? ⟨wb,3,none⟩=false:=by simp[World.frozen?,Ad]
  have Va:(w8.setCell ⟨wb,3,none⟩ (slice (some ⟨gm,0,none⟩) (ms.length+4) cm)).heap[wb]? =some (cells (OE sv (slice (some ⟨gn,0,none⟩) (ls.length+4) cn) nv (slice (some ⟨gm,0,none⟩) (ms.length+4) cm) qv (k+1)) 77 (0,0)):=by rw[ar _ Ad];rfl
  have K9:Kp (λi=>i=wb) w8 (w8.setCell ⟨wb,3,none⟩ (slice (some ⟨gm,0,none⟩) (ms.length+4) cm)):=(Kp.refl _ _).setCell jF _;have uf:∀{e:TypeId} {sz:Nat} {v:Value} {n:Nat} {R:List Value} {b:Nat},w7.ownsRow b e sz v n R->(∀q,v.ownBlock=some q->mv.ownBlock≠some q)->e≠77->(w8.setCell ⟨wb,3,none⟩ (slice (some ⟨gm,0,none⟩) (ms.length+4) cm)).ownsRow b e sz v n R:=λho h1 h2=>by
   have h6:=K8.owns ho h1;exact K9.owns h6 (λq hq e=>aZ h6 Ad h2 (by rw[hq,e]))
  have Z:∀{e:TypeId} {sz:Nat} {v:Value} {n:Nat} {R:List Value},w7.ownsRow w.heap.size e sz v n R->∀q,v.ownBlock=some q->mv.ownBlock≠some q:=λho q hq hm=>by
   have:=(ho.lt q hq).1;have:=ab q hm;omega
  have HQ:=ag (show OiQ w (w8.setCell ⟨wb,3,none⟩ (slice (some ⟨gm,0,none⟩) (ms.length+4) cm)) B wb sv iv nv mv qv (slice D j j) k j ls ms (slice (some ⟨gn,0,none⟩) (ls.length+4) cn) (slice (some ⟨gm,0,none⟩) (ms.length+4) cm) (slice a1 (j+1) b1) (slice a2 (j+2) b2) (slice a3 (j+3) b3)from by
   refine⟨Va,uf o7 (cJ o7 Nr aV) aV,?_,?_,?_,?_,?_,(KX.trans' K8 (λ_ _ e=>inr (inr (inl e)))).trans' K9 (λ_ _ e=>inl e),w5.heap.size,a8,?_,Xw⟩
   ·rw[HM];exact K9.owns o8 (λq hq e=>aZ o8 Ad aV (by rw[hq,e]))
   ·rw[HM];exact uf Q E aV
   ·rw[HM];exact uf p7 (Z p7) aV
   ·rw[HM];exact uf q7 (Z q7) aV
   ·rw[HM];exact uf r7 (Z r7) aV
   intro b hb;obtain rfl:gm=b:=by simpa[Value.ownBlock]using hb
   exact n8.imp id (λe=>bz Xx (bz ((Kp.refl bA w7).alloc _).size e)))
  clear uf Va K9 K8 Ad o8 gr8 KX Nr Q p7 q7 r7 o7 vf Z n8;go_wp2_with (at_builtin;refine dP rfl (tmp 53) (tmp 58) 38 rfl _ _ (slice (some ⟨gm,0,none⟩) (ms.length+4) cm) w8 rfl rfl hr8 ?_);go_end0
  exact⟨rfl,_,_,_,_,_,HQ⟩
theorem xm.size{W B wb nv qv N M Ss sv iv mv es k}(h:xm W B wb nv qv N M Ss sv iv mv es k):B<=W.heap.size/\wb<W.heap.size:=by
 have:=aR h.cj;have:=h.hB;omega
theorem xm.owned{W W' B wb nv qv N M Ss sv iv mv es k}(h:xm W B wb nv qv N M Ss sv iv mv es k){v}{OF}{mv'}{g1}{g2}{g3}{n}{O}(I:W.ownsRow B 3 1 v n O)(X:n<=1000)(D:∀b,v.ownBlock=some b->(∀e∈es,e.1.ownBlock≠some b)/\mv.ownBlock≠some b/\qv.ownBlock≠some b)(q:OiQ W W' B wb sv iv nv mv qv v k n (es.map (·.1)) (es.map λe=>int i64 e.2.2) OF mv' g1 g2 g3):(∃G,xm W' B wb nv qv N (M+1) Ss sv OF mv' G (k+1))/\Kp (λi=>B<=i) W W':=by
 have Q:∀b,(b=wb\/iv.ownBlock=some b\/mv.ownBlock=some b\/v.ownBlock=some b)->∃c T,W.heap[b]? =some (cells c T (0,0))/\(T=77\/T=38\/T=3):=by
  rintro b (rfl|e|e|e)
  ·exact⟨_,_,h.cj,.inl rfl⟩
  ·have⟨c,hc⟩:=bC h.inr e;exact⟨_,_,hc,.inr (.inl rfl)⟩
  ·have⟨c,hc⟩:=bC h.KI e;exact⟨_,_,hc,.inr (.inr rfl)⟩
  have⟨c,hc⟩:=bC I e;exact⟨_,_,hc,.inr (.inr rfl)⟩
 have F:∀{b:Nat} {c:Array Value} {T:TypeId},W.heap[b]? =some (cells c T (0,0))->¬(T=77\/T=38\/T=3)->¬(b=wb\/iv.ownBlock=some b\/mv.ownBlock=some b\/v.ownBlock=some b):=λ {b c T} hb hT hs=>by
  have⟨c',T',e1,e2⟩:=Q b hs;have:=uV hb e1;subst this;exact hT e2
 have⟨H,hH,m1,m2⟩:=q.mvn;have iL:=h.size.1;have J:∀e∈es,LiE W' B mv' e:=λe he=>by
  have⟨o1,o2,o3⟩:=h.ph e he;refine⟨q.K.owns o1 (λb hb hs=>?_),o2,λb hb hm=>?_⟩
  ·rcases hs with e1|e1|e1|e1
   ·exact aZ o1 h.cj aV (by rw[hb,e1])
   ·exact cJ o1 h.inr aV b hb e1
   ·exact o3 b hb e1
   exact(D b e1).1 e he hb
  rcases m1 b hm with e1|e1
  ·exact o3 b hb e1
  have:=(o1.lt b hb).2;omega
 have new:∀{g:Value} {c:Nat},c<=2000->W'.ownsRow W.heap.size 3 1 g c (xW c (-(k+1)))->(∀b,g.ownBlock=some b->b<H)->LiE W' B mv' (g,c,-(k+1)):=λ {g c} hc ho hl=>⟨cH ho iL,hc,λb hb hm=>by
  have U:=(ho.lt b hb).1;rcases m1 b hm with e1|e1
  ·have:=(h.KI.lt b e1).2;omega
  have:=hl b hb;omega⟩
 refine⟨⟨es++[(v,n,-(k+1)),(g1,n+1,-(k+1)),(g2,n+2,-(k+1)),(g3,n+3,-(k+1))],q.cj,?_,?_,h.Xu,h.lo,h.bd,h.sl,?_,?_,?_,by have:=h.k0;omega,by have:=h.kM;omega,by have:=h.eM;simp;omega,h.hB,?_⟩,q.K.mono (λb _ hs=>?_)⟩
 ·refine q.K.owns h.Hg (λb hb=>?_);have⟨c,hc⟩:=bC h.Hg hb;exact F hc aV
 ·intro i s hs;refine(h.sb i s hs).pO q.K (λb hb c T hc=>?_);have⟨c',T',e1,e2⟩:=Q b hb;have:=uV hc e1;subst this;unfold G6 G7 Fp He;rcases e2 with rfl|rfl|rfl<;>decide
 ·simpa using q.inr
 ·simpa[xW]using q.KI
 ·intro e he;rcases cS.1 he with he|he
  ·exact J e he
  simp only[dB,gJ,gK]at he;rcases he with rfl|rfl|rfl|rfl
  ·refine⟨q.e0,by show n<=2000;omega,λb hb hm=>?_⟩;rcases m1 b hm with e1|e1
   ·exact(D b hb).2.1 e1
   have:=(I.lt b hb).2;omega
  ·exact new oQ q.e1 (λb hb=>m2 b (.inl hb))
  ·exact new oQ q.e2 (λb hb=>m2 b (.inr (.inl hb)))
  exact new oQ q.e3 (λb hb=>m2 b (.inr (.inr hb)))
 ·have⟨en,l,n⟩:=h.nd;have R:∀b,qv.ownBlock=some b->b<W.heap.size:=λb e=>(n.RB.lt b e).2;have E:∀{g:Value} {c:Nat} {O:List Value},W'.ownsRow W.heap.size 3 1 g c O->∀b,qv.ownBlock=some b->g.ownBlock≠some b:=λho b e x=>by
   have:=(ho.lt b x).1;have:=R b e;omega
  refine⟨en,oQ,q.K.owns n.nor (λb hb=>?_),q.K.owns n.RB (λb hb hs=>?_),λe he=>⟨q.K.owns (n.Xt e he).1 (λb hb=>?_),(n.Xt e he).2⟩,λb hb=>⟨λx=>?_,λe he=>?_⟩⟩
  ·have⟨c,hc⟩:=bC n.nor hb;exact F hc aV
  ·rcases hs with e1|e1|e1|e1
   ·exact aZ n.RB h.cj aV (by rw[hb,e1])
   ·exact cJ n.RB h.inr aV b hb e1
   ·exact(n.nm b hb).1 e1
   exact(D b e1).2.2 hb
  ·have⟨c,hc⟩:=bC (n.Xt e he).1 hb;exact F hc aV
  ·rcases m1 b x with e1|e1
   ·exact(n.nm b hb).1 e1
   have:=R b hb;omega
  rcases cS.1 he with he|he
  ·exact(n.nm b hb).2 e he
  simp only[dB,gJ,gK]at he;rcases he with rfl|rfl|rfl|rfl
  ·exact λx=>(D b x).2.2 hb
  ·exact E q.e1 b hb
  ·exact E q.e2 b hb
  exact E q.e3 b hb
 rcases hs with e1|e1|e1|e1
 ·have:=h.hB;omega
 ·exact(h.inr.lt b e1).1
 ·exact(h.KI.lt b e1).1
 exact(I.lt b e1).1
theorem Ft w{B}{wb}{nv}{qv}{N}{M}{Ss}{sv}{iv}{mv}{es}{k}(h:xm w B wb nv qv N M Ss sv iv mv es k){i:Nat}{s}(hi:Ss[i]? =some s)(hN:N<=910000000000)(hM:M<=Ss.length+910000000000):
 Calls prog 67 #[pointer (some ⟨wb,0,none⟩),pointer (some ⟨s.b,0,none⟩)] w λy w'=>y=returned (bool true)/\(∃OF mv' G k',xm w' B wb nv qv N (M+1) Ss sv OF mv' G k')/\Kp (λi=>B<=i) w w':=by
 have hs:=h.sb i s hi;have ad:=hs.si.len;obtain⟨b1,-,-⟩:=h.bd i s hi;have c0:w.cell? ⟨s.b,0,none⟩=some (pointer (some ⟨s.xb,0,none⟩)):=dG hs.pair rfl;have c1:w.cell? ⟨s.b,1,none⟩=some (pointer (some ⟨s.p.yb,0,none⟩)):=dG hs.pair rfl;have ap:s.x.kept.length<=10:=by rw[hs.si.kept];have:=CY s.all s.x.ai;omega
 have Z:s.x.kept.map Vr.num=uU s.all.length s.x.ai:=by rw[hs.si.kept];exact CX _ _
 have I:s.x.kept.length=(uU s.all.length s.x.ai).length:=by rw[<-Z,fN]
 have E1:=ag (DT w hs.sv oQ);have D:=c_ h hs Z;have HK:=ag I;clear h hs Z I;go_in;go_wp2_with fail;refine fu E1 ?_;rintro y w1 ⟨rfl,o1,R⟩;have aa:=R.bN c1;have E2:=ag (DU w1 (D.2.1.rv.aw R) oQ ad);clear E1 c0 c1;go_wp2_with fail;refine fu E2 ?_;rintro y w2 ⟨v2,rfl,o2,U⟩;have oL:w1.ownsRow w.heap.size 3 1 (slice (some ⟨w.heap.size,0,none⟩) s.x.kept.length s.x.kept.length) (uU s.all.length s.x.ai).length ((uU s.all.length s.x.ai).map λk:Nat=>int i64 (k:Int)):=by
  rw[<-HK,<-D.2.2,List.map_map];exact o1
 have E3:=ag (G2 w2 _ v2 _ ((G1.ofRow oL).aB U) (G1.ofRow o2) (by rw[<-HK];omega));obtain⟨RL,aj,rfl⟩:=bp o2;have Oh:=R.trans U;have J:=U.owns o1 (λ_ _ x=>x);clear E2 aa oL o1 o2 R U;go_wp2_with fail;refine fu E3 ?_;rintro y w3 ⟨rfl,Y⟩;have X:=Oh.trans Y;have E:=D.1.aw X;have hz:=D.1.size;have o3:=cH (Y.owns J (λ_ _ x=>x)) hz.1;have ab:=E.k0;have ao:=E.kM;have am:=E.eM;have sl:=E.sl;have F:∀b,(Value.slice (some ⟨w.heap.size,0,none⟩) s.x.kept.length s.x.kept.length).ownBlock=some b->(∀e∈es,e.1.ownBlock≠some b)/\mv.ownBlock≠some b/\qv.ownBlock≠some b:=λb hb=>by
  obtain rfl:w.heap.size=b:=by simpa[Value.ownBlock]using hb
  exact⟨λe he x=>by have:=((D.1.ph e he).1.lt _ x).2;omega,λx=>by have:=(D.1.KI.lt _ x).2;omega,λx=>by have⟨en,l,n⟩:=D.1.nd;have:=(n.RB.lt _ x).2;omega⟩
 have E4:=ag (Ke w3 wb B sv iv nv mv qv (slice (some ⟨w.heap.size,0,none⟩) s.x.kept.length s.x.kept.length) k s.x.kept.length (s.x.kept.map λv=>int i64 v.num) (es.map (·.1)) (es.map λe=>int i64 e.2.2) E.cj ab oQ o3 (λ_ _ e=>by injection e with _ _ e;exact e.symm) oQ (cX E.inr) (cX E.KI) il il (bz hz.1 X.size) (λb hb=>(F b hb).2.1));have O:=fM E o3 F X;clear E3 Y Oh J D E o3 F X;go_wp2_with fail;refine fu E4 ?_;rintro y w4 ⟨rfl,OF,mv',g1,g2,g3,Q⟩;have⟨⟨G,hL⟩,K5⟩:=O.1.owned O.2.1 oQ O.2.2.1 Q;have HZ:=bw hL ((O.2.2.2.mono (S':=λi=>B<=i) gM).trans K5);clear E4 Q hL K5;go_wp2;go_ret;exact⟨rfl,⟨_,_,_,_,HZ.1⟩,HZ.2⟩
theorem Ch.Xy{t n}(h:pH t n=0):(Ch.read t).1=0/\1<=n/\n<=6/\(cR (Ch.read t).2.2).2.2=0:=by
 grind[pH]
theorem Xz:(prog.info? 140).map (λi=>(i.zero,i.size,i.bytes))=some (some (pointer none),1,8):=bZ
theorem xm.more{W W' B wb nv qv N M Ss sv iv mv R es k}(h:xm W B wb nv qv N M Ss sv iv mv es k){s}(K:Kp (λi=>i=wb\/sv.ownBlock=some i) W W')(hb:W'.heap[wb]? =some (cells (OE R iv nv mv qv k) 77 (0,0)))(hr:W'.ownsRow B 140 1 R (Ss.length+1) ((Ss.map λs=>pointer (some ⟨s.b,0,none⟩))++[pointer (some ⟨s.b,0,none⟩)]))(hs:C_ W' s){H}(hH:B<=H)(J:∀k,Nt s k->H<=k)(Q:∀(i:Nat) a,Ss[i]? =some a->∀k,Nt a k->k<H)(G:s.all.length=1/\s.log.size<=10000000000/\s.x.bj=0):xm W' B wb nv qv (N+1) (M+1) (Ss++[s]) R iv mv es k:=by
 have U:∀b,(b=wb\/sv.ownBlock=some b)->∃c T,W.heap[b]? =some (cells c T (0,0))/\(T=77\/T=140):=by
  rintro b (rfl|e)
  ·exact⟨_,_,h.cj,.inl rfl⟩
  have⟨c,hc⟩:=bC h.Hg e;exact⟨_,_,hc,.inr rfl⟩
 have own:∀{e:TypeId} {sz:Nat} {v:Value} {n:Nat} {Z:List Value} {b:Nat},W.ownsRow b e sz v n Z->¬(e=77\/e=140)->W'.ownsRow b e sz v n Z:=λho he=>K.owns ho (λq E hS=>by
  have⟨c,hc⟩:=bC ho E;have⟨c',T',e1,e2⟩:=U q hS;have:=uV hc e1;subst this;exact he e2)
 have get:∀{j:Nat} {a:Sx},(Ss++[s])[j]? =some a->(j<Ss.length/\Ss[j]? =some a)\/(j=Ss.length/\a=s):=λ {j a} D=>by
  by_cases e:j<Ss.length
  ·rw[mx e]at D;exact .inl ⟨e,D⟩
  rw[iy oQ]at D;have:j-Ss.length=0:=by
   have:=(aM.1 D).1;simp at this;omega
  rw[this]at D;simp at D;exact .inr ⟨oQ,D.symm⟩
 refine⟨hb,by simpa using hr,?_,?_,?_,?_,by have:=h.sl;simp;omega,own h.inr aV,own h.KI aV,λe he=>⟨own (h.ph e he).1 aV,(h.ph e he).2⟩,h.k0,by have:=h.kM;omega,by have:=h.eM;simp;omega,h.hB,by have⟨en,l,n⟩:=h.nd;exact⟨en,oQ,n.aB λo e=>own o (by rcases e with rfl|rfl|rfl<;>decide)⟩⟩
 ·intro j a D;rcases get D with⟨_,D⟩|⟨_,rfl⟩
  ·refine(h.sb j a D).pO K (λb hb c T hc=>?_);have⟨c',T',e1,e2⟩:=U b hb;have:=uV hc e1;subst this;unfold G6 G7 Fp He;rcases e2 with rfl|rfl<;>decide
  exact hs
 ·intro j l a c D Y ne q E F;rcases get D with⟨_,O⟩|⟨ej,ea⟩
  ·rcases get Y with⟨_,I⟩|⟨el,X⟩
   ·exact h.Xu j l a c O I ne q E F
   have:=Q j a O q E;rw[X]at F;have:=J q F;omega
  rcases get Y with⟨_,I⟩|⟨el,X⟩
  ·have:=Q l c I q F;rw[ea]at E;have:=J q E;omega
  exact ne (ej.trans el.symm)
 ·intro j a D q E;rcases get D with⟨_,D⟩|⟨_,rfl⟩
  ·exact h.lo j a D q E
  exact bz hH (J q E)
 intro j a D;rcases get D with⟨_,D⟩|⟨_,rfl⟩
 ·have⟨a1,a2,a3⟩:=h.bd j a D;exact⟨oQ,bz a2 (Nat.add_le_add_left (Nat.mul_le_mul_left _ (cT _)) _),oQ⟩
 exact⟨by rw[G.1];omega,bz G.2.1 (Nat.le_add_right _ _),by rw[G.2.2];omega⟩
theorem Vc w{B}{wb}{nv}{qv}{N}{M}{Ss}{sv}{iv}{mv}{es}{k}(h:xm w B wb nv qv N M Ss sv iv mv es k)o(hN:N<=910000000000):
 Calls prog 102 #[pointer (some ⟨wb,0,none⟩),agg (mr o)] w λy w'=>y=returned (bool true)/\(∃Yl OI,xm w' B wb nv qv (N+1) (M+1) Yl OI iv mv es k)/\Kp (λi=>B<=i) w w':=by
 have⟨i0,hi0,hz0,hz1,hz2⟩:=cr Xz;have I:=ak w (cells (mr o) 81);have K1:=kG w (cells (mr o) 81);have O:=ag h;clear h;go_in;go_upto_region 1 with(fail);generalize w.alloc (cells (mr o) 81)=w1 at*;generalize w.heap.size=ob at*;have c1:w1.cell? ⟨ob,1,none⟩=some (string o.t):=dG I rfl;have c9:w1.cell? ⟨ob,9,none⟩=some (int i64 o.n):=dG I rfl;have E1:=ag (UW w1 o.t o.n);generalize aj:pH o.t o.n=ne at*;have G:=ag aj;clear aj I;go_wp21;refine hm E1 ?_;rintro y w2 ⟨v,rfl,Q2,Q⟩;have aS:=Q.bN c1;have a0:=Q.bN c9;have E2:=ag (U9 w2 o.t o.n);rw[G]at E2;clear E1 c1 c9;go_wp2_with fail;refine hm E2 ?_;rintro y D ⟨u,rfl,Z⟩;have X:=Z.2.2;have EN:=ag (oN D ne);have R:=(K1.trans Q).trans X;have E:=O.aw R;clear E2 aS a0;go_wp2_with fail;refine b9 EN ?_;intro w4 e4;rw[e4];clear e4 w4;go_wp21;refine b9 EN ?_;intro w4 e4;rw[e4];clear e4 w4 EN;by_cases U:ne=0
 ·obtain⟨xb,tb,pc,kv,rfl,hS,ab⟩:=Q2.2 (G.trans U);obtain⟨p,av,rfl,hR,aa⟩:=Z.2.1 (G.trans U);have⟨r0,n1,n6,m0⟩:=Xy (G.trans U);have J:Fj _ (Ch.read o.t).2.2:=ZI (Prod.ext r0 (Prod.ext (Oq o.t r0) rfl)) hR.rf.WR;have aO:=Xl (n:=o.n.toNat) J m0 oQ;have ad:=At hR.rf.ok;have⟨ao,cap,hsv⟩:=bp E.Hg;obtain⟨bx,a3⟩:∃b,b=D.heap.size:=⟨_,rfl⟩
  have a4:=E.sl;have x0:_=some sv:=E.cell 0;have F:Kp bA D ((D.alloc (cells #[pointer (some ⟨xb,0,none⟩),pointer (some ⟨p.yb,0,none⟩)] 181)).alloc (cells #[pointer (some ⟨D.heap.size,0,none⟩)] 140)):=((Kp.refl _ _).alloc _).alloc _;have am:((D.alloc (cells #[pointer (some ⟨xb,0,none⟩),pointer (some ⟨p.yb,0,none⟩)] 181)).alloc (cells #[pointer (some ⟨D.heap.size,0,none⟩)] 140)).heap[D.heap.size]? =some (cells #[pointer (some ⟨xb,0,none⟩),pointer (some ⟨p.yb,0,none⟩)] 181 (0,0)):=by rw[cE _ _ _ dy];exact ak _ _
  have⟨gs,cs,w6,pe,o6,Xs,n6'⟩:=dJ (P:=prog) ((D.alloc (cells #[pointer (some ⟨xb,0,none⟩),pointer (some ⟨p.yb,0,none⟩)] 181)).alloc (cells #[pointer (some ⟨D.heap.size,0,none⟩)] 140)) B 73 73 140 i0 (pointer none) 1 8 underlying73 hi0 hz0 hz1 hz2 rfl aV sv Ss.length (Ss.map λs=>pointer (some ⟨s.b,0,none⟩)) (F.owns E.Hg (λ_ _ x=>x)) ⟨D.heap.size+1,0,none⟩ 1 1 [pointer (some ⟨D.heap.size,0,none⟩)] rfl (by
   have:=eZ (D.alloc (cells #[pointer (some ⟨xb,0,none⟩),pointer (some ⟨p.yb,0,none⟩)] 181)) [pointer (some ⟨D.heap.size,0,none⟩)] 140;rw[show(D.alloc (cells #[pointer (some ⟨xb,0,none⟩),pointer (some ⟨p.yb,0,none⟩)] 181)).heap.size=D.heap.size+1 by simp]at this;exact this) Ki aV wY oQ (bz (bz O.size.1 R.size) F.size)
  have KG:=(F.mono gM).trans' ((Kp.refl (λi=>sv.ownBlock=some i) _).grown Xs (λi hi _=>hi)) (λ_ _ x=>x);have uL:=KG.at_ E.cj (aZ E.Hg E.cj aV);have d0:w6.cell? ⟨wb,0,none⟩=some sv:=dG uL rfl;have f0:w6.frozen? ⟨wb,0,none⟩=false:=by simp[World.frozen?,uL]
  have K7:Kp (λi=>i=wb) w6 (w6.setCell ⟨wb,0,none⟩ (slice (some ⟨gs,0,none⟩) (Ss.length+1) cs)):=(Kp.refl _ _).setCell jF _;have vf:(w6.setCell ⟨wb,0,none⟩ (slice (some ⟨gs,0,none⟩) (Ss.length+1) cs)).heap[wb]? =some (cells (OE (slice (some ⟨gs,0,none⟩) (Ss.length+1) cs) iv nv mv qv k) 77 (0,0)):=by rw[ar _ uL];rfl
  have o7:=K7.owns o6 (λq hq e=>aZ o6 uL aV (by rw[hq,e]));have KZ:Kp (λi=>i=wb\/sv.ownBlock=some i) _ _:=(KG.mono (λ_ _ e=>inr e)).trans' K7 (λ_ _ e=>inl e);have aI:C_ _ ⟨D.heap.size,xb,tb,pc,(Ch.read o.t).2.2,sR (Ch.read o.t).2.2 o.n.toNat,kv,p,av,[(cR (Ch.read o.t).2.2).1],(cR (Ch.read o.t).2.2).2.1,o.t⟩:=⟨am,(hS.aw X).aw F,hR.aw F,aO,J⟩
  have Y:Kp (λi=>i=wb\/sv.ownBlock=some i) _ _:=((Kp.refl _ _).grown Xs (λi hi _=>inr hi)).trans' K7 (λ_ _ e=>inl e);have ap:=aI.pO Y (λb hb c T hc=>by
   have a2:=F.at_ E.cj (λx=>x);have a1:=F.owns E.Hg (λ_ _ x=>x);have hT:T=77\/T=140:=by
    rcases hb with rfl|e
    ·exact inl (uV hc a2)
    have⟨c',hc'⟩:=bC a1 e;exact inr (uV hc hc')
   unfold G6 G7 Fp He;rcases hT with rfl|rfl<;>decide)
  have z1:=K1.size;have z2:=Q.size;have z3:=X.size;have HL:=ag (E.more KZ vf o7 ap (H:=w.heap.size) O.size.1 (λi hi=>by
   rcases hi with e|e|e
   ·have:i=D.heap.size:=e;omega
   ·have:=ab i e;omega
   have:=aa i e;omega) (λi a ha q hq=>(O.sb i a ha).low hq) ⟨rfl,ad,rfl⟩)
  have HK:=ag ((R.mono (S':=λi=>B<=i) gM).trans' KZ (λi _ e=>by
   rcases e with e|e
   ·have:=O.hB;omega
   exact(E.Hg.lt i e).1))
  rw[hsv]at x0 d0 pe;clear Q2 Z K1 Q X R E hS hR ab aa aO J ad F am o6 Xs n6' KG uL K7 vf o7 KZ aI Y ap O a4 hsv a3 z1 z2 z3 G r0 m0 U;go_wp2_with (at_builtin;refine dP rfl (tmp 43) (tmp 48) 73 rfl _ _ (slice (some ⟨gs,0,none⟩) (Ss.length+1) cs) w6 rfl rfl pe ?_);go_ret;exact⟨rfl,⟨_,_,HL⟩,HK⟩
 obtain rfl:=Q2.1 (by rw[G];exact U);obtain rfl:=Z.1 (by rw[G];exact U);have HZ:=bw (E.up (cT N) (cT M)) (R.mono (S':=λi=>B<=i) gM);clear Q2 Z K1 Q X R E;go_wp2;go_ret;exact⟨rfl,⟨_,_,HZ.1⟩,HZ.2⟩
