import Derived.Test.YtnlbchmfcebeeaaGreatTZt
set_option maxHeartbeats 12800000
set_option maxRecDepth 100000
namespace Go.Proofs.YtnlbchmfcebeeaaGreat
open Go.Proofs.Tryz Ch
open Go.RowKit
def I0(w:World)(v:Value)(ss:List St):Prop:=∃D cap,v= .slice D ss.length cap/\∀i s,ss[i]? =some s->∃g,D=some ⟨g,0,none⟩/\w.cell? ⟨g,i*3,none⟩=some (.string (strOfNums [s.name]))/\w.cell? ⟨g,i*3+1,none⟩=some (.int .i64 s.kind)/\w.cell? ⟨g,i*3+2,none⟩=some (.int .i64 s.parent)
def mkL(n:Nat)(m:Int):List Value:=(List.replicate n [Value.string ⟨#[]⟩,.int .i64 m,.int .i64 m]).flatten
theorem mN{P:Program}(w:World)(t e:TypeId)(i:TypeInfo)(z:Value)(size bytes:Nat)(ht:P.underlying t=some (.slice e))(hi:P.info? e=some i)(hz:i.zero=some z)
 (I:i.size=size) (X:i.bytes=bytes) (Z:z.cells.size=size) (iG:0<size) (base:Nat) (v:Value) (n:Nat) (xs:List Value) (F:w.ownsRow base e size v n xs) (Y:∀ao c,v= .slice ao n c->c=n)
 (a:Addr) (m c:Nat) (D:List Value) (hl:D.length=m*size) (G:∀j u,D[j]? =some u->w.cell? (a.add j)=some u) (h1:∀u∈D,u.oneCell'=true) (hm:0<m)
 (U:n+m<=maxLen) (E:(n+m)*bytes<=140737488355328):
 ∃O w',(Builtin.append_ #[t,t] t #[v,.slice (some a) m c]).run P w= .ok O w'/\w'.ownsRow w.heap.size e size O (n+m) (xs++D)/\Kp (λ_=>False) w w':=by
 rcases F.2 with⟨hv,h0⟩|⟨g,cap,aa,hv,hb,hg,aj,_,ad,am⟩
 ·subst h0
  have hx:xs=[]:=pR (by have:=F.1;omega);subst hx;subst hv;obtain⟨O,w',hr,ho,J,_⟩:=run_append_own (P:=P) w w.heap.size t t e i z size bytes ht hi hz I X Z iG _ 0 [] (bT w w.heap.size e size) a m c D hl G h1 U E (aC _);exact⟨O,w',hr,ho,(Kp.refl _ _).grown J (λk hk _=>by simp[Value.ownBlock]at hk)⟩
 have hc:=Y _ _ hv;subst hv;obtain⟨O,w',hr,ho,J⟩:=run_append_arg_grows (P:=P) w t t e i z size bytes ht hi hz I X Z iG ⟨g,0,none⟩ n cap xs F.1 (F.cells (g:=g) rfl) a m c D hl G (by omega) U E;exact⟨O,w',hr,ho,(Kp.refl _ _).grown J (λk hk _=>by simp at hk)⟩
theorem fX{P:Program}{D:Array Oper}{rest:List Oper}{o:Oper}{a:Act}{w:World}{Q:Exit->Act->World->Prop}(E:o.guard=none)(s x:Operand)(t:TypeId)
 (F:o.op= .call {callee:=.builtin .append,args:=#[s,x],argTypes:=#[t,t]}) (v u G:Value) (w':World) (hs:a.eval s=v) (O:a.eval x=u)
 (J:(Builtin.append_ #[t,t] o.type #[v,u]).run P w= .ok G w') (I:wpList P D Q rest (a.put o.dst G) w'):wpList P D Q (o::rest) a w:=
 wpList_plain E λK hK'=>by
  unfold Oper.wp execOp;simp only[F,resolve,invoke,builtin,jD,k_,jE,List.map_toArray,List.map_cons,List.map_nil,hs,O,J];exact hK' _ _ I
def wlA(nv mv:Value)(k:Int):Array Value:=#[.slice none 0 0,.slice none 0 0,nv,.slice none 0 0,mv,.int .i64 k]
def LsE(w:World)(e:Value×Nat×Int):Prop:=w.ownsRow 0 111 3 e.1 e.2.1 (mkL e.2.1 e.2.2)/\e.2.1<=2000
section
variable (w:World)
theorem I1(v:Value)(D:List zZ)(lo hi:Int)(J:Nat->World->Prop)(WE:World->Prop)(hs:Qw w v D)(hl:D.length<=maxLen)
 (G:∀k W,J k W->J (k+1) W)
 (h0:J 0 (w.alloc (.cells #[.slice none 0 0,.slice none 0 0,.slice none 0 0,.slice none 0 0,.slice none 0 0,.int .i64 0] 77)))
 (I:∀(k:Nat) (W:World) (o:zZ),k<D.length->o∈D->lo<=o.kind->o.kind<=hi->J k W->KB w.heap.size w W->Calls prog 39 #[.pointer (some ⟨w.heap.size,0,none⟩),.agg (uT o)] W λx W'=>x= .returned (.bool true)/\J (k+1) W'/\KB w.heap.size W W')
 (Uv:∀W:World,J D.length W->KB w.heap.size w W->Calls prog 40 #[.pointer (some ⟨w.heap.size,0,none⟩)] W λx W'=>x= .returned (.bool true)/\WE W'/\KB w.heap.size W W')
 (Uw:∀W:World,WE W->KB w.heap.size w W->Calls prog 41 #[.pointer (some ⟨w.heap.size,0,none⟩)] W λx W'=>x= .returned (.bool true)/\KB w.heap.size W W'):
 Calls prog 19 #[v,.int .i64 lo,.int .i64 hi] w λx w'=>x= .returned (.bool true)/\Kp (λ_=>False) w w':=by
 unfold maxLen at hl;obtain⟨d,hd,kJ⟩:=Oh;obtain⟨ao,cap,rfl⟩:=hs.len;have K0:KB w.heap.size w (w.alloc (.cells #[.slice none 0 0,.slice none 0 0,.slice none 0 0,.slice none 0 0,.slice none 0 0,.int .i64 0] 77)):=(Kp.refl _ _).alloc _;have am:=af I;have O:=af G;have aa:=af Uv;have ad:=af Uw;have aj:=af hs;clear I Uv Uw hs G
 go_enter func19,ntmps19
 go_upto_region 3 with(fail)
 generalize w.alloc (.cells #[.slice none 0 0,.slice none 0 0,.slice none 0 0,.slice none 0 0,.slice none 0 0,.int .i64 0] 77)=w1 at*
 go_loopw [8] (λi wr=>∃k:Nat,i= .int .i64 k/\k<=D.length/\Hid (J k wr/\KB w.heap.size w wr)) (λi _=>D.length-(intOf i).toNat)
 case atStart=>exact⟨0,rfl,aG _,af ⟨h0,K0⟩⟩
 case round=>
  obtain⟨k,rfl,hk,F⟩:=hrel
  by_cases U:k<D.length
  ·have a0:(k:Int)<(D.length:Int):=by omega
   obtain⟨o,ho⟩:∃o,D[k]? =some o:=⟨_,ar U⟩
   obtain⟨g,X,aS,hv,hc⟩:=(aj.out.az F.out.2).at_ ho;simp only[aK,bS]at hv;obtain⟨rfl,rfl⟩:=hv;have z0:wr.cell? ⟨g,X+k*14,none⟩=_:=hc 0 _ rfl
   by_cases aO:lo<=o.kind
   ·by_cases aI:o.kind<=hi
    ·have E:=af (am.out k wr o U (aM ho) aO aI F.out.1 F.out.2)
     go_wp2_with (refine cH rfl 81 (.tmp 38) rfl g (X+k*14) rfl (UP o) d hc hd kJ GX ?_)
     refine hm E ?_;rintro y w2 ⟨rfl,Z,Y⟩;have ap:=af (show J (k+1) w2/\KB w.heap.size w w2 from⟨Z,Kp.trans F.out.2 Y⟩);clear E Z Y;go_wp2
     go_roundw
     case rel=>exact⟨k+1,by go_num,by omega,ap⟩
     case measure=>simp[intOf];omega
    go_wp2
    go_roundw
    case rel=>exact⟨k+1,by go_num,by omega,af ⟨O.out _ _ F.out.1,F.out.2⟩⟩
    case measure=>simp[intOf];omega
   go_wp2
   go_roundw
   case rel=>exact⟨k+1,by go_num,by omega,af ⟨O.out _ _ F.out.1,F.out.2⟩⟩
   case measure=>simp[intOf];omega
  have a1:¬(k:Int)<(D.length:Int):=by omega
  obtain rfl:k=D.length:=by omega
  have E1:=af (aa.out wr F.out.1 F.out.2)
  go_wp2_with fail
  refine hm E1 ?_;rintro y w2 ⟨rfl,Z,Y⟩;have K3:KB _ _ _:=Kp.trans F.out.2 Y;have E2:=af (ad.out w2 Z K3)
  go_wp2_with fail
  refine hm E2 ?_;rintro y w3 ⟨rfl,K4⟩;go_wp2;go_ret;exact⟨rfl,(show KB w.heap.size w w3 from Kp.trans K3 K4).mono (λi hi x=>by omega)⟩
end
def WC(wb B K:Nat)(W:World):Prop:=∃(nv mv:Value) (k:Int) (es:List (Value×Nat×Int)),W.heap[wb]? =some (.cells (wlA nv mv k) 77 (0,0))/\0<=k/\k<=K/\es.length<=4*K/\W.ownsRow B 107 1 nv es.length (es.map (·.1))/\W.ownsRow B 3 1 mv es.length (es.map λe=>.int .i64 e.2.2)/\(∀e∈es,LsE W e)/\B<=W.heap.size
theorem WC.up{wb B K:Nat}{W:World}(h:WC wb B K W):WC wb B (K+1) W:=by
 obtain⟨nv,mv,k,es,D,E,F,G,r⟩:=h;exact⟨nv,mv,k,es,D,E,by omega,by omega,r⟩
theorem WC.az{wb B K:Nat}{W W':World}(h:WC wb B K W)(k0:Kp (λ_=>False) W W'):WC wb B K W':=by
 obtain⟨nv,mv,k,es,D,E,F,G,I,J,h7,O⟩:=h;exact⟨nv,mv,k,es,k0.at_ D (λx=>x),E,F,G,k0.owns I (λ_ _ x=>x),k0.owns J (λ_ _ x=>x),λe he=>⟨k0.owns (h7 e he).1 (λ_ _ x=>x),(h7 e he).2⟩,bA O k0.size⟩
theorem Tj(ss:List St):(JX ss).length=ss.length*3:=by
 unfold JX
 induction ss with
 |nil=>rfl
 |cons a l D=>rw[nH,gu,D];grind[ndA]
theorem V6{ss:List St}{i:Nat}{s:St}(h:ss[i]? =some s):(JX ss)[i*3]? =some (.string (strOfNums [s.name]))/\(JX ss)[i*3+1]? =some (.int .i64 s.kind)/\(JX ss)[i*3+2]? =some (.int .i64 s.parent):=by
 have D:=(aJ.1 h).1
 have e:JX ss=JX (ss.take i)++([.string (strOfNums [s.name]),.int .i64 s.kind,.int .i64 s.parent]++JX (ss.drop (i+1))):=by
  rw[<-iY,<-Qo h];unfold JX;rw[<-nL,lK]
 grind[JX,Tj]
theorem I0.nil(w:World):I0 w (.slice none 0 0) []:=⟨none,0,rfl,λi s h=>by simp at h⟩
theorem I0.ofRow{w:World}{B:Nat}{u:Value}{ss:List St}(h:w.ownsRow B 111 3 u ss.length (JX ss)):I0 w u ss:=by
 obtain⟨E,c,rfl⟩:=bn h;refine⟨E,c,rfl,λi s hs=>?_⟩;have J:=(aJ.1 hs).1;obtain⟨g,O,D,_⟩:=cR h (by omega);simp only[aK]at D;obtain⟨rfl,-,-⟩:=D;obtain⟨F,G,I⟩:=V6 hs;exact⟨g,rfl,(bP h (i*3) (by omega)).trans F,(bP h (i*3+1) (by omega)).trans G,(bP h (i*3+2) (by omega)).trans I⟩
theorem I0.az{w w':World}{v:Value}{ss:List St}(h:I0 w v ss)(k:Kp (λ_=>False) w w'):I0 w' v ss:=by
 obtain⟨D,c,J,O⟩:=h;refine⟨D,c,J,λi s hs=>?_⟩;obtain⟨g,E,F,G,I⟩:=O i s hs;exact⟨g,E,k.bX F,k.bX G,k.bX I⟩
def u0(n:Nat)(m:Int):List Value:=List.replicate n (.int .i64 m)
theorem xZ{n k:Nat}{m:Int}:u0 n m++u0 k m=u0 (n+k) m:=List.replicate_append_replicate
theorem x7{n:Nat}{m:Int}:∀u∈u0 n m,u.oneCell'=true:=λu hu=>by rw[List.eq_of_mem_replicate hu];rfl
theorem Qp:(prog.info? 38).map (λi=>(i.zero,i.size,i.bytes))=some (some (.slice none 0 0),1,24):=by kernel_rfl
theorem Tl{n j:Nat}{m:Int}{xs:List Value}(E:xs.length=n)(D:j<n):(u0 j m++xs.drop j).set j (.int .i64 m)=u0 (j+1) m++xs.drop (j+1):=by
 have e:xs.drop j=xs[j]'(by omega)::xs.drop (j+1):=eZ (by omega);rw[e,List.set_append_right _ _ (by simp[u0]),<-xZ,iY,show j-(u0 j m).length=0 by simp[u0]];rfl
section
variable (w:World) (wb:Nat)
theorem Qq{C:Array Value}(k:Int)(h:w.heap[wb]? =some (.cells C 77 (0,0)))(D:C[5]? =some (.int .i64 k))(F:0<=k)(G:k<=1000000000):
 Calls prog 143 #[.pointer (some ⟨wb,0,none⟩)] w λx w'=>x= .returned (.int .i64 (-(k+1)))/\w'=w.setCell ⟨wb,5,none⟩ (.int .i64 (k+1)):=by
 have c5:w.cell? ⟨wb,5,none⟩=some (.int .i64 k):=by rw[World.cell?,h];exact D
 have f5:w.frozen? ⟨wb,5,none⟩=false:=by simp[World.frozen?,h]
 have E:=(Array.getElem?_eq_some_iff.1 D).1
 have d5:(w.setCell ⟨wb,5,none⟩ (.int .i64 (k+1))).cell? ⟨wb,5,none⟩=some (.int .i64 (k+1)):=by rw[World.cell?,ak _ h];simp[E]
 go_enter func143,ntmps143
 go_wp2;go_ret;exact⟨rfl,rfl⟩
end
structure OiQ(w w':World)(B wb:Nat)(sv iv nv mv qv v:Value)(k:Int)(n:Nat)(ls ms:List Value)(JY mv' g1 g2 g3:Value):Prop where
 bO:w'.heap[wb]? =some (.cells (Ti sv JY nv mv' qv (k+1)) 77 (0,0))
 inr:w'.ownsRow B 38 1 JY (ls.length+4) (ls++[v,g1,g2,g3])
 JW:w'.ownsRow B 3 1 mv' (ms.length+4) (ms++u0 4 (-(k+1)))
 e0:w'.ownsRow B 3 1 v n (u0 n (-(k+1)))
 e1:w'.ownsRow w.heap.size 3 1 g1 (n+1) (u0 (n+1) (-(k+1)))
 e2:w'.ownsRow w.heap.size 3 1 g2 (n+2) (u0 (n+2) (-(k+1)))
 e3:w'.ownsRow w.heap.size 3 1 g3 (n+3) (u0 (n+3) (-(k+1)))
 K:Kp (λi=>i=wb\/iv.ownBlock=some i\/mv.ownBlock=some i\/v.ownBlock=some i) w w'
 mvn:∃H,w.heap.size<=H/\(∀b,mv'.ownBlock=some b->mv.ownBlock=some b\/H<=b)/\∀b,g1.ownBlock=some b\/g2.ownBlock=some b\/g3.ownBlock=some b->b<H
section
variable (w:World) (wb B:Nat)
theorem FY(sv iv nv mv qv v:Value)(k:Int)(n:Nat)(xs ls ms:List Value)(h:w.heap[wb]? =some (.cells (Ti sv iv nv mv qv k) 77 (0,0)))(h0:0<=k)(h1:k<=1000000000)(hv:w.ownsRow B 3 1 v n xs)(aO:∀D c,v= .slice D n c->c=n)(hn:n<=1000)
 (a0:w.ownsRow B 38 1 iv ls.length ls) (ad:w.ownsRow B 3 1 mv ms.length ms) (ci:ls.length<=1000000000) (ck:ms.length<=1000000000) (hB:B<=w.heap.size) (E:∀b,v.ownBlock=some b->mv.ownBlock≠some b):
 Calls prog 109 #[.pointer (some ⟨wb,0,none⟩),v] w λx w'=>x= .returned (.tuple #[])/\∃JY mv' g1 g2 g3,OiQ w w' B wb sv iv nv mv qv v k n ls ms JY mv' g1 g2 g3:=by
 obtain⟨i1,bt,b6,b7,ca⟩:=bY Qp;obtain⟨i2,aa,aj,am,ap⟩:=bY lX;have E1:=af (Qq w wb k h rfl h0 h1)
 have I:(w.setCell ⟨wb,5,none⟩ (.int .i64 (k+1))).heap[wb]? =some (.cells (Ti sv iv nv mv qv (k+1)) 77 (0,0)):=by rw[ak _ h];rfl
 have J:Kp (λi=>i=wb) w (w.setCell ⟨wb,5,none⟩ (.int .i64 (k+1))):=(Kp.refl _ _).setCell (by intro _;rfl) _;have G:=J.owns hv (λj hj e=>aZ hv h (by decide) (by rw[hj,e]));have YQ:=J.owns a0 (λj hj e=>aZ a0 h (by decide) (by rw[hj,e]));have O:=J.owns ad (λj hj e=>aZ ad h (by decide) (by rw[hj,e]));have bm:=af (show∀b,mv.ownBlock=some b->b<w.heap.size from λb hb=>(ad.lt b hb).2)
 have b5:xs.length=n:=by have:=hv.1;omega
 obtain⟨D,ac,rfl⟩:=bn hv;have F:=(aO D ac rfl).symm;subst F;have H1:=af (ae I (ae J (ae G (ae YQ (ae O E)))));clear I J G YQ O h hv a0 ad aO E
 go_enter func109,ntmps109
 go_wp2_with fail
 refine b9 E1 ?_;rintro y w1 ⟨rfl,e1⟩;rw[e1];clear e1 w1 E1;generalize w.setCell ⟨wb,5,none⟩ (.int .i64 (k+1))=w1 at*;generalize ba: -(k+1)=m at*;have HM:=af ba;clear ba
 go_wp2_with fail
 go_loopw [5] (λiv wr=>∃j:Nat,iv= .int .i64 j/\j<=n/\Hid (wr.ownsRow B 3 1 (.slice D n n) n (u0 j m++xs.drop j))/\Kp (λi=>(Value.slice D n n).ownBlock=some i) w1 wr) (λiv _=>n-(intOf iv).toNat)
 case atStart=>exact⟨0,rfl,aG _,af (by simpa[u0]using H1.out.2.2.1),Kp.refl _ _⟩
 case round=>
  obtain⟨j,rfl,hj,HO,KW⟩:=hrel
  by_cases b0:j<n
  ·have ce:(j:Int)<(n:Int):=by omega
   obtain⟨g,cc,bi,_⟩:=cR HO.out (by omega);simp only[aK]at bi;obtain⟨rfl,-,-⟩:=bi;have bx:=HO.out.1
   obtain⟨v0,c0⟩:∃u,wr.cell? ⟨g,j,none⟩=some u:=⟨_,(bP HO.out j (by omega)).trans (ar (by omega))⟩
   have f0:=World.ownsRow.frozenAt HO.out j;have Y:=(World.ownsRow.stored HO.out j (.int .i64 m)).1;rw[Tl b5 b0]at Y;have X:=KW.setCell (p:=⟨g,j,none⟩) (λ_=>rfl) (.int .i64 m);have HZ:=af (ae Y X);clear Y X HO KW bx;go_wp2
   go_roundw
   case rel=>exact⟨j+1,by go_num,by omega,af HZ.out.1,HZ.out.2⟩
   case measure=>simp[intOf];omega
  have cg:¬(j:Int)<(n:Int):=by omega
  obtain rfl:j=n:=by omega
  have a5:wr.ownsRow B 3 1 (.slice D j j) j (u0 j m):=by
   have:=HO.out;rw[c_ (by omega),i_]at this;exact this
  have F:∀br c,Value.slice D j j= .slice br j c->c=j:=λ_ _ e=>by injection e with _ _ e;exact e.symm
  clear HO;obtain⟨g1,w3,bb,Y,X⟩:=mN (P:=prog) (wr.alloc (.cells #[.int .i64 m] 3)) 38 3 i2 (.int .i64 0) 1 8 underlying38 aa aj am ap rfl (by decide) B (.slice D j j) j (u0 j m) (by exact a5.alloc _) F ⟨wr.heap.size,0,none⟩ 1 1 (u0 1 m) rfl (by exact fQ _ (u0 1 m) _) x7 (by decide) (by unfold maxLen;omega) (by omega);rw[xZ]at Y;obtain⟨a1,b1,rfl⟩:=bn Y;have s3:wr.heap.size<=(wr.alloc (.cells #[.int .i64 m] 3)).heap.size:=((Kp.refl (λ_=>False) wr).alloc _).size;replace Y:=dY Y s3;replace X:Kp (λ_=>False) wr w3:=((Kp.refl _ _).alloc _).trans X;have a6:=X.owns a5 (λ_ _ x=>x)
  go_upto_region 6 with(at_builtin;refine fX rfl (.tmp 21) (.tmp 23) 38 rfl _ _ (.slice a1 (j+1) b1) w3 rfl rfl bb ?_)
  clear bb s3;obtain⟨g2,w4,bc,o4,K4⟩:=mN (P:=prog) (w3.alloc (.cells #[.int .i64 m,.int .i64 m] 3)) 38 3 i2 (.int .i64 0) 1 8 underlying38 aa aj am ap rfl (by decide) B (.slice D j j) j (u0 j m) (by exact a6.alloc _) F ⟨w3.heap.size,0,none⟩ 2 2 (u0 2 m) rfl (by exact fQ _ (u0 2 m) _) x7 (by decide) (by unfold maxLen;omega) (by omega);rw[xZ]at o4;obtain⟨a2,b2,rfl⟩:=bn o4;have s4:w3.heap.size<=(w3.alloc (.cells #[.int .i64 m,.int .i64 m] 3)).heap.size:=((Kp.refl (λ_=>False) w3).alloc _).size;replace o4:=dY o4 s4;replace K4:Kp (λ_=>False) w3 w4:=((Kp.refl _ _).alloc _).trans K4;have a7:=K4.owns a6 (λ_ _ x=>x)
  go_upto_region 7 with(at_builtin;refine fX rfl (.tmp 25) (.tmp 28) 38 rfl _ _ (.slice a2 (j+2) b2) w4 rfl rfl bc ?_)
  clear bc s4;obtain⟨g3,w5,oW,Z,K5⟩:=mN (P:=prog) (w4.alloc (.cells #[.int .i64 m,.int .i64 m,.int .i64 m] 3)) 38 3 i2 (.int .i64 0) 1 8 underlying38 aa aj am ap rfl (by decide) B (.slice D j j) j (u0 j m) (by exact a7.alloc _) F ⟨w4.heap.size,0,none⟩ 3 3 (u0 3 m) rfl (by exact fQ _ (u0 3 m) _) x7 (by decide) (by unfold maxLen;omega) (by omega);rw[xZ]at Z;obtain⟨a3,b3,rfl⟩:=bn Z;have s5:w4.heap.size<=(w4.alloc (.cells #[.int .i64 m,.int .i64 m,.int .i64 m] 3)).heap.size:=((Kp.refl (λ_=>False) w4).alloc _).size;replace Z:=dY Z s5;replace K5:Kp (λ_=>False) w4 w5:=((Kp.refl _ _).alloc _).trans K5;have bk:=K5.owns a7 (λ_ _ x=>x)
  go_upto_region 8 with(at_builtin;refine fX rfl (.tmp 30) (.tmp 34) 38 rfl _ _ (.slice a3 (j+3) b3) w5 rfl rfl oW ?_)
  clear oW s5;obtain⟨I,J,G,a4,O,E⟩:=H1.out;have p5:=(K4.trans K5).owns Y (λ_ _ x=>x);have q5:=K5.owns o4 (λ_ _ x=>x);have KT:=((KW.trans' X (λ_ _ x=>x.elim)).trans' K4 (λ_ _ x=>x.elim)).trans' K5 (λ_ _ x=>x.elim);have Tm:=KT.at_ I (aZ G I (by decide));have rX:=KT.owns a4 (dp a4 G (by decide));have a9:=KT.owns O (λq hq e=>E q e hq);have z1:=bA J.size KW.size;replace p5:=dY p5 z1;replace q5:=dY q5 (bA z1 X.size);replace Z:=dY Z (bA z1 (bA X.size K4.size));have be:=bA hB (bA J.size KT.size);have bo:=bA J.size KT.size
  have Tn:∀b,(Value.slice a1 (j+1) b1).ownBlock=some b\/(Value.slice a2 (j+2) b2).ownBlock=some b\/(Value.slice a3 (j+3) b3).ownBlock=some b->b<w5.heap.size:=λb hb=>by
   rcases hb with e|e|e
   ·exact(p5.lt b e).2
   ·exact(q5.lt b e).2
   exact(Z.lt b e).2
  have aS:∀u∈([.slice D j j,(.slice a1 (j+1) b1),(.slice a2 (j+2) b2),(.slice a3 (j+3) b3)]:List Value),u.oneCell'=true:=by
   intro u hu;simp only[dP,hY,h_]at hu
   rcases hu with rfl|rfl|rfl|rfl
   ·rfl
   ·exact qV p5
   ·exact qV q5
   exact qV Z
  obtain⟨gn,cn,w6,vV,o6,WD,_⟩:=dV (P:=prog) (w5.alloc (.cells #[.slice D j j,(.slice a1 (j+1) b1),(.slice a2 (j+2) b2),(.slice a3 (j+3) b3)] 38)) B 74 74 38 i1 (.slice none 0 0) 1 24 underlying74 bt b6 b7 ca rfl (by decide) iv ls.length ls (by exact rX.alloc _) ⟨w5.heap.size,0,none⟩ 4 4 [.slice D j j,(.slice a1 (j+1) b1),(.slice a2 (j+2) b2),(.slice a3 (j+3) b3)] rfl (by exact fQ _ [.slice D j j,(.slice a1 (j+1) b1),(.slice a2 (j+2) b2),(.slice a3 (j+3) b3)] _) aS (by decide) (by unfold maxLen;omega) (by omega) (by simp;omega);have K6:=((Kp.refl _ _).alloc (.cells #[.slice D j j,(.slice a1 (j+1) b1),(.slice a2 (j+2) b2),(.slice a3 (j+3) b3)] 38)).grown (by exact WD) (λi hi _=>hi);have xJ:=K6.at_ Tm (aZ rX Tm (by decide))
  have c2:w5.cell? ⟨wb,1,none⟩=some iv:=by rw[World.cell?,Tm];rfl
  have d2:w6.cell? ⟨wb,1,none⟩=some iv:=by rw[World.cell?,xJ];rfl
  have f2:w6.frozen? ⟨wb,1,none⟩=false:=by simp[World.frozen?,xJ]
  have AP:(w6.setCell ⟨wb,1,none⟩ (.slice (some ⟨gn,0,none⟩) (ls.length+4) cn)).heap[wb]? =some (.cells (Ti sv (.slice (some ⟨gn,0,none⟩) (ls.length+4) cn) nv mv qv (k+1)) 77 (0,0)):=by rw[ak _ xJ];rfl
  have K7:Kp (λi=>i=wb) w6 (w6.setCell ⟨wb,1,none⟩ (.slice (some ⟨gn,0,none⟩) (ls.length+4) cn)):=(Kp.refl _ _).setCell (by intro _;rfl) _
  have BR:∀{e:TypeId} {sz:Nat} {v:Value} {n:Nat} {xs:List Value} {b:Nat},w5.ownsRow b e sz v n xs->e≠38->e≠77->(w6.setCell ⟨wb,1,none⟩ (.slice (some ⟨gn,0,none⟩) (ls.length+4) cn)).ownsRow b e sz v n xs:=λho h1 h2=>by
   have h6:=K6.owns ho (dp ho rX h1);exact K7.owns h6 (λq hq e=>aZ h6 xJ h2 (by rw[hq,e]))
  have V7:=BR a9 (by decide) (by decide);have U:=BR bk (by decide) (by decide);have p7:=BR p5 (by decide) (by decide);have q7:=BR q5 (by decide) (by decide);have r7:=BR Z (by decide) (by decide);have o7:=K7.owns o6 (λq hq e=>aZ o6 xJ (by decide) (by rw[hq,e]));have KX:Kp (λi=>i=wb\/iv.ownBlock=some i\/mv.ownBlock=some i\/(Value.slice D j j).ownBlock=some i) _ _:=(((J.mono (λ_ _ e=>.inl e)).trans' KT (λ_ _ e=>.inr (.inr (.inr e)))).trans' K6 (λ_ _ e=>.inr (.inl e))).trans' K7 (λ_ _ e=>.inl e);have V8:=bA hB KX.size;have To:=bA K6.size K7.size;have aI:=bm.out;have H7:=af (ae AP (ae V7 (ae U (ae p7 (ae q7 (ae r7 (ae o7 (ae KX (ae V8 (ae Tn (ae To (ae E aI))))))))))));clear I J G a4 O KT Tm rX a9 bk p5 q5 Z BR o6 WD xJ K6 K7 H1 X K4 K5 a5 a6 a7 AP V7 U p7 q7 r7 o7 KX V8 aS F be Y o4 KW Tn To E aI z1
  go_upto_region 9 with(at_builtin;refine fX rfl (.tmp 40) (.tmp 45) 74 rfl _ _ (.slice (some ⟨gn,0,none⟩) (ls.length+4) cn) w6 rfl rfl vV ?_)
  clear c2 d2 f2 vV;generalize w6.setCell ⟨wb,1,none⟩ (.slice (some ⟨gn,0,none⟩) (ls.length+4) cn)=w7 at*;obtain⟨AP,V7,U,p7,q7,r7,o7,KX,V8,Tn,To,E,aI⟩:=H7.out;clear H7;obtain⟨gm,cm,w8,b4,o8,a8,n8⟩:=dV (P:=prog) (w7.alloc (.cells #[.int .i64 m,.int .i64 m,.int .i64 m,.int .i64 m] 3)) B 38 38 3 i2 (.int .i64 0) 1 8 underlying38 aa aj am ap rfl (by decide) mv ms.length ms (by exact V7.alloc _) ⟨w7.heap.size,0,none⟩ 4 4 (u0 4 m) rfl (by exact fQ _ (u0 4 m) _) x7 (by decide) (by unfold maxLen;omega) (by omega) (by simp;omega);have K8:=((Kp.refl _ _).alloc (.cells #[.int .i64 m,.int .i64 m,.int .i64 m,.int .i64 m] 3)).grown (by exact a8) (λi hi _=>hi);have Ng:=K8.at_ AP (aZ V7 AP (by decide))
  have c4:w7.cell? ⟨wb,3,none⟩=some mv:=by rw[World.cell?,AP];rfl
  have d4:w8.cell? ⟨wb,3,none⟩=some mv:=by rw[World.cell?,Ng];rfl
  have f4:w8.frozen? ⟨wb,3,none⟩=false:=by simp[World.frozen?,Ng]
  have YR:(w8.setCell ⟨wb,3,none⟩ (.slice (some ⟨gm,0,none⟩) (ms.length+4) cm)).heap[wb]? =some (.cells (Ti sv (.slice (some ⟨gn,0,none⟩) (ls.length+4) cn) nv (.slice (some ⟨gm,0,none⟩) (ms.length+4) cm) qv (k+1)) 77 (0,0)):=by rw[ak _ Ng];rfl
  have K9:Kp (λi=>i=wb) w8 (w8.setCell ⟨wb,3,none⟩ (.slice (some ⟨gm,0,none⟩) (ms.length+4) cm)):=(Kp.refl _ _).setCell (by intro _;rfl) _
  have BS:∀{e:TypeId} {sz:Nat} {v:Value} {n:Nat} {xs:List Value} {b:Nat},w7.ownsRow b e sz v n xs->(∀q,v.ownBlock=some q->mv.ownBlock≠some q)->e≠77->(w8.setCell ⟨wb,3,none⟩ (.slice (some ⟨gm,0,none⟩) (ms.length+4) cm)).ownsRow b e sz v n xs:=λho h1 h2=>by
   have h6:=K8.owns ho h1;exact K9.owns h6 (λq hq e=>aZ h6 Ng h2 (by rw[hq,e]))
  have ZV:∀{e:TypeId} {sz:Nat} {v:Value} {n:Nat} {xs:List Value},w7.ownsRow w.heap.size e sz v n xs->∀q,v.ownBlock=some q->mv.ownBlock≠some q:=λho q hq hm=>by
   have:=(ho.lt q hq).1;have:=aI q hm;omega
  have HQ:=af (show OiQ w (w8.setCell ⟨wb,3,none⟩ (.slice (some ⟨gm,0,none⟩) (ms.length+4) cm)) B wb sv iv nv mv qv (.slice D j j) k j ls ms (.slice (some ⟨gn,0,none⟩) (ls.length+4) cn) (.slice (some ⟨gm,0,none⟩) (ms.length+4) cm) (.slice a1 (j+1) b1) (.slice a2 (j+2) b2) (.slice a3 (j+3) b3)from by
   refine⟨YR,BS o7 (dp o7 V7 (by decide)) (by decide),?_,?_,?_,?_,?_,(KX.trans' K8 (λ_ _ e=>.inr (.inr (.inl e)))).trans' K9 (λ_ _ e=>.inl e),w5.heap.size,bo,?_,Tn⟩
   ·rw[HM.out];exact K9.owns o8 (λq hq e=>aZ o8 Ng (by decide) (by rw[hq,e]))
   ·rw[HM.out];exact BS U E (by decide)
   ·rw[HM.out];exact BS p7 (ZV p7) (by decide)
   ·rw[HM.out];exact BS q7 (ZV q7) (by decide)
   ·rw[HM.out];exact BS r7 (ZV r7) (by decide)
   intro b hb
   obtain rfl:gm=b:=by simpa[Value.ownBlock]using hb
   exact n8.imp id (λe=>bA To (bA ((Kp.refl (λ_=>False) w7).alloc _).size e)))
  clear BS YR K9 K8 Ng o8 a8 KX V7 U p7 q7 r7 o7 AP ZV n8
  go_wp2_with (at_builtin;refine fX rfl (.tmp 53) (.tmp 58) 38 rfl _ _ (.slice (some ⟨gm,0,none⟩) (ms.length+4) cm) w8 rfl rfl b4 ?_)
  go_end0
  exact⟨rfl,_,_,_,_,_,HQ.out⟩
end
section
variable {W W':World} {B wb:Nat} {nv qv:Value} {N M:Nat} {Ss:List Sx} {sv iv mv:Value} {es:List (Value×Nat×Int)} {k:Int}
theorem wX.size(h:wX W B wb nv qv N M Ss sv iv mv es k):B<=W.heap.size/\wb<W.heap.size:=by
 have:=aR h.bO;have:=h.hB;omega
theorem wX.owned(h:wX W B wb nv qv N M Ss sv iv mv es k){v JY mv' g1 g2 g3:Value}{n:Nat}{xs:List Value}(U:W.ownsRow B 3 1 v n xs)(hn:n<=1000)(O:∀b,v.ownBlock=some b->(∀e∈es,e.1.ownBlock≠some b)/\mv.ownBlock≠some b)
 (q:OiQ W W' B wb sv iv nv mv qv v k n (es.map (·.1)) (es.map λe=>.int .i64 e.2.2) JY mv' g1 g2 g3):(∃F,wX W' B wb nv qv N (M+1) Ss sv JY mv' F (k+1))/\Kp (λi=>B<=i) W W':=by
 have J:∀b,(b=wb\/iv.ownBlock=some b\/mv.ownBlock=some b\/v.ownBlock=some b)->∃c T,W.heap[b]? =some (.cells c T (0,0))/\(T=77\/T=38\/T=3):=by
  rintro b (rfl|e|e|e)
  ·exact⟨_,_,h.bO,.inl rfl⟩
  ·obtain⟨c,D⟩:=bz h.inr e;grind
  ·obtain⟨c,D⟩:=bz h.JW e;grind
  grind[bz]
 have Z:∀{b:Nat} {c:Array Value} {T:TypeId},W.heap[b]? =some (.cells c T (0,0))->¬(T=77\/T=38\/T=3)->¬(b=wb\/iv.ownBlock=some b\/mv.ownBlock=some b\/v.ownBlock=some b):=λ {b c T} hb hT hs=>by
  grind
 obtain⟨H,hH,I,G⟩:=q.mvn;have iG:=h.size.1
 have Y:∀e∈es,LiE W' B mv' e:=λe he=>by
  obtain⟨E,X,o3⟩:=h.nR e he;refine⟨q.K.owns E (λb hb hs=>?_),X,λb hb hm=>?_⟩
  ·rcases hs with e1|e1|e1|e1
   ·exact aZ E h.bO (by decide) (by rw[hb,e1])
   ·exact dp E h.inr (by decide) b hb e1
   ·simp_all
   grind
  rcases I b hm with e1|e1
  ·simp_all
  have:=(E.lt b hb).2;omega
 have new:∀{g:Value} {c:Nat},c<=2000->W'.ownsRow W.heap.size 3 1 g c (u0 c (-(k+1)))->(∀b,g.ownBlock=some b->b<H)->LiE W' B mv' (g,c,-(k+1)):=λ {g c} D ho hl=>⟨dY ho iG,D,λb hb hm=>by
  have b1:=(ho.lt b hb).1
  rcases I b hm with e1|e1
  ·have:=(h.JW.lt b e1).2;omega
  have:=hl b hb;omega⟩
 refine⟨⟨es++[(v,n,-(k+1)),(g1,n+1,-(k+1)),(g2,n+2,-(k+1)),(g3,n+3,-(k+1))],q.bO,?_,?_,h.Ut,h.lo,h.bd,h.sl,?_,?_,?_,by have:=h.k0;omega,by have:=h.kM;omega,by have:=h.eM;simp;omega,h.hB⟩,q.K.mono (λb _ hs=>?_)⟩
 ·refine q.K.owns h.FX (λb hb=>?_)
  obtain⟨c,D⟩:=bz h.FX hb;grind
 ·intro i s hs
  refine(h.sb i s hs).oD q.K (λb hb c T D=>?_);obtain⟨c',T',e1,e2⟩:=J b hb;have:=xw D e1;subst this;unfold FV FW C2 FM
  rcases e2 with rfl|rfl|rfl<;>decide
 ·simpa using q.inr
 ·simpa[u0]using q.JW
 ·intro e he
  rcases cB.1 he with he|he
  ·simp_all
  simp only[dP,hY,h_]at he
  rcases he with rfl|rfl|rfl|rfl
  ·refine⟨q.e0,by show n<=2000;omega,λb hb hm=>?_⟩
   grind
  ·exact new (by omega) q.e1 (λb hb=>G b (.inl hb))
  ·exact new (by omega) q.e2 (λb hb=>G b (.inr (.inl hb)))
  exact new (by omega) q.e3 (λb hb=>G b (.inr (.inr hb)))
 rcases hs with e1|e1|e1|e1
 ·have:=h.hB;omega
 ·exact(h.inr.lt b e1).1
 ·exact(h.JW.lt b e1).1
 exact(U.lt b e1).1
end
section
variable (w:World) {B wb:Nat} {nv qv:Value} {N M:Nat} {Ss:List Sx} {sv iv mv:Value} {es:List (Value×Nat×Int)} {k:Int}
theorem BT(h:wX w B wb nv qv N M Ss sv iv mv es k){i:Nat}{s:Sx}(hi:Ss[i]? =some s)(hN:N<=10000000)(hM:M<=100000000):
 Calls prog 67 #[.pointer (some ⟨wb,0,none⟩),.pointer (some ⟨s.b,0,none⟩)] w λy w'=>y= .returned (.bool true)/\(∃JY mv' G k',wX w' B wb nv qv N (M+1) Ss sv JY mv' G k')/\Kp (λi=>B<=i) w w':=by
 have hs:=h.sb i s hi;have aj:=hs.si.len;obtain⟨b1,-,-⟩:=h.bd i s hi
 have c0:w.cell? ⟨s.b,0,none⟩=some (.pointer (some ⟨s.xb,0,none⟩)):=by rw[World.cell?,hs.pair];rfl
 have c1:w.cell? ⟨s.b,1,none⟩=some (.pointer (some ⟨s.p.yb,0,none⟩)):=by rw[World.cell?,hs.pair];rfl
 have aI:s.x.kept.length<=10:=by rw[hs.si.kept];have:=zK s.all s.x.ah;omega
 have V9:s.x.kept.map Vr.num=rP s.all.length s.x.ah:=by rw[hs.si.kept];exact zJ _ _
 have I:s.x.kept.length=(rP s.all.length s.x.ah).length:=by rw[<-V9,gx]
 have E1:=af (AM w hs.sv (by omega));have E:=af (ae h (ae hs V9));have HK:=af I;clear h hs V9 I
 go_enter func67,ntmps67
 go_wp2_with fail
 refine b9 E1 ?_;rintro y w1 ⟨rfl,o1,U⟩;have aa:=U.bX c1;have E2:=af (AN w1 (E.out.2.1.rv.au U) (by omega) aj);clear E1 c0 c1
 go_wp2_with fail
 refine b9 E2 ?_;rintro y w2 ⟨v2,rfl,o2,X⟩
 have oL:w1.ownsRow w.heap.size 3 1 (.slice (some ⟨w.heap.size,0,none⟩) s.x.kept.length s.x.kept.length) (rP s.all.length s.x.ah).length ((rP s.all.length s.x.ah).map λk:Nat=>.int .i64 (k:Int)):=by
  rw[<-HK.out,<-E.out.2.2,List.map_map];exact o1
 have E3:=af (Df w2 _ v2 _ ((De.ofRow oL).az X) (De.ofRow o2) (by rw[<-HK.out];omega));obtain⟨Nu,am,rfl⟩:=bn o2;have Nw:=U.trans X;have J:=X.owns o1 (λ_ _ x=>x);clear E2 aa oL o1 o2 U X
 go_wp2_with fail
 refine b9 E3 ?_;rintro y w3 ⟨rfl,Z⟩;have Y:=Nw.trans Z;have D:=E.out.1.au Y;have hz:=E.out.1.size;have o3:=dY (Z.owns J (λ_ _ x=>x)) hz.1;have ad:=D.k0;have ap:=D.kM;have ao:=D.eM
 have F:∀b,(Value.slice (some ⟨w.heap.size,0,none⟩) s.x.kept.length s.x.kept.length).ownBlock=some b->(∀e∈es,e.1.ownBlock≠some b)/\mv.ownBlock≠some b:=λb hb=>by
  obtain rfl:w.heap.size=b:=by simpa[Value.ownBlock]using hb
  exact⟨λe he x=>by have:=((E.out.1.nR e he).1.lt _ x).2;omega,λx=>by have:=(E.out.1.JW.lt _ x).2;omega⟩
 have E4:=af (FY w3 wb B sv iv nv mv qv (.slice (some ⟨w.heap.size,0,none⟩) s.x.kept.length s.x.kept.length) k s.x.kept.length (s.x.kept.map λv=>.int .i64 v.num) (es.map (·.1)) (es.map λe=>.int .i64 e.2.2) D.bO ad (by omega) o3 (λ_ _ e=>by injection e with _ _ e;exact e.symm) (by omega) (by simpa using D.inr) (by simpa using D.JW) (by simp;omega) (by simp;omega) (bA hz.1 Y.size) (λb hb=>(F b hb).2));have O:=af (ae D (ae o3 (ae F Y)));clear E3 Z Nw J E D o3 F Y
 go_wp2_with fail
 refine b9 E4 ?_;rintro y w4 ⟨rfl,JY,mv',g1,g2,g3,Q⟩;obtain⟨⟨G,hL⟩,K5⟩:=O.out.1.owned O.out.2.1 (by omega) O.out.2.2.1 Q;have HZ:=af (ae hL ((O.out.2.2.2.mono (S':=λi=>B<=i) (λ_ _ x=>x.elim)).trans K5));clear E4 Q hL K5;go_wp2;go_ret;exact⟨rfl,⟨_,_,_,_,HZ.out.1⟩,HZ.out.2⟩
end
theorem Ch.Tp{t:ByteArray}{n:Int}(h:mK t n=0):(Ch.read t).1=0/\1<=n/\n<=6/\(df (Ch.read t).2.2).2.2=0:=by
 grind[mK]
theorem Tq:(prog.info? 140).map (λi=>(i.zero,i.size,i.bytes))=some (some (.pointer none),1,8):=by kernel_rfl
section
variable {W W':World} {B wb:Nat} {nv qv:Value} {N M:Nat} {Ss:List Sx} {sv iv mv Nj:Value} {es:List (Value×Nat×Int)} {k:Int}
theorem wX.more(h:wX W B wb nv qv N M Ss sv iv mv es k){s:Sx}(K:Kp (λi=>i=wb\/sv.ownBlock=some i) W W')(hb:W'.heap[wb]? =some (.cells (Ti Nj iv nv mv qv k) 77 (0,0)))(hr:W'.ownsRow B 140 1 Nj (Ss.length+1) ((Ss.map λs=>.pointer (some ⟨s.b,0,none⟩))++[.pointer (some ⟨s.b,0,none⟩)]))
 (hs:zU W' s) {H:Nat} (hH:B<=H) (Z:∀k,IZ s k->H<=k) (aa:∀(i:Nat) (a:Sx),Ss[i]? =some a->∀k,IZ a k->k<H) (X:s.all.length=1/\s.log.size<=10000000000/\s.x.aU=0):wX W' B wb nv qv (N+1) M (Ss++[s]) Nj iv mv es k:=by
 have O:∀b,(b=wb\/sv.ownBlock=some b)->∃c T,W.heap[b]? =some (.cells c T (0,0))/\(T=77\/T=140):=by
  rintro b (rfl|e)
  ·exact⟨_,_,h.bO,.inl rfl⟩
  obtain⟨c,F⟩:=bz h.FX e;grind
 have own:∀{e:TypeId} {sz:Nat} {v:Value} {n:Nat} {xs:List Value} {b:Nat},W.ownsRow b e sz v n xs->¬(e=77\/e=140)->W'.ownsRow b e sz v n xs:=λho he=>K.owns ho (λq E hS=>by
  obtain⟨c,F⟩:=bz ho E;obtain⟨U,T',e1,e2⟩:=O q hS;have:=xw F e1;subst this
  exact he e2)
 have get:∀{j:Nat} {a:Sx},(Ss++[s])[j]? =some a->(j<Ss.length/\Ss[j]? =some a)\/(j=Ss.length/\a=s):=λ {j a} D=>by
  grind
 refine⟨hb,by simpa using hr,?_,?_,?_,?_,by have:=h.sl;simp;omega,own h.inr (by decide),own h.JW (by decide),λe he=>⟨own (h.nR e he).1 (by decide),(h.nR e he).2⟩,h.k0,h.kM,h.eM,h.hB⟩
 ·intro j a D
  rcases get D with⟨_,D⟩|⟨_,rfl⟩
  ·refine(h.sb j a D).oD K (λb hb c T F=>?_)
   obtain⟨U,T',e1,e2⟩:=O b hb;have:=xw F e1;subst this;unfold FV FW C2 FM
   rcases e2 with rfl|rfl<;>decide
  omega
 ·intro j l a c D Y ne q E J
  rcases get D with⟨_,G⟩|⟨ej,ea⟩
  ·rcases get Y with⟨_,I⟩|⟨el,ec⟩
   ·exact h.Ut j l a c G I ne q E J
   grind
  grind
 ·intro j a D q E
  rcases get D with⟨_,D⟩|⟨_,rfl⟩
  ·exact h.lo j a D q E
  grind
 intro j a D
 rcases get D with⟨_,D⟩|⟨_,rfl⟩
 ·obtain⟨a1,a2,a3⟩:=h.bd j a D
  omega
 omega
end
section
variable (w:World) {B wb:Nat} {nv qv:Value} {N M:Nat} {Ss:List Sx} {sv iv mv:Value} {es:List (Value×Nat×Int)} {k:Int}
theorem Qr(h:wX w B wb nv qv N M Ss sv iv mv es k)(o:zZ)(hN:N<=10000000):
 Calls prog 102 #[.pointer (some ⟨wb,0,none⟩),.agg (uT o)] w λy w'=>y= .returned (.bool true)/\(∃Uu Nj,wX w' B wb nv qv (N+1) M Uu Nj iv mv es k)/\Kp (λi=>B<=i) w w':=by
 obtain⟨i0,a8,ba,bb,bc⟩:=bY Tq;have I:=an w (.cells (uT o) 81);have K1:Kp (λ_=>False) w (w.alloc (.cells (uT o) 81)):=(Kp.refl _ _).alloc _;have O:=af h;clear h
 go_enter func102,ntmps102
 go_upto_region 1 with(fail)
 generalize w.alloc (.cells (uT o) 81)=w1 at*;generalize w.heap.size=ob at*
 have c1:w1.cell? ⟨ob,1,none⟩=some (.string o.t):=by rw[World.cell?,I];rfl
 have c9:w1.cell? ⟨ob,9,none⟩=some (.int .i64 o.n):=by rw[World.cell?,I];rfl
 have E1:=af (Qa w1 o.t o.n);generalize ap:mK o.t o.n=ne at*;have G:=af ap;clear ap I
 go_wp2_with fail
 refine hm E1 ?_;rintro y w2 ⟨v,rfl,Q2,U⟩;have a2:=U.bX c1;have a3:=U.bX c9;have E2:=af (Qn w2 o.t o.n);rw[G.out]at E2;clear E1 c1 c9
 go_wp2_with fail
 refine hm E2 ?_;rintro y D ⟨u,rfl,Q3⟩;have K3:=Q3.2.2;have EN:=af (xQ D ne);have X:=(K1.trans U).trans K3;have E:=O.out.au X;clear E2 a2 a3
 go_wp2_with fail
 refine hm EN ?_;rintro x w4 ⟨rfl,e4⟩;rw[e4];clear e4 w4
 go_wp2_with fail
 refine hm EN ?_;rintro x w4 ⟨rfl,e4⟩;rw[e4];clear e4 w4 EN
 by_cases Y:ne=0
 ·obtain⟨xb,tb,pc,kv,rfl,hS,aj⟩:=Q2.2 (G.out.trans Y)
  obtain⟨p,av,rfl,hR,ad⟩:=Q3.2.1 (G.out.trans Y);obtain⟨r0,n1,n6,m0⟩:=Tp (G.out.trans Y);have J:BJ _ (Ch.read o.t).2.2:=VL (Prod.ext r0 (Prod.ext (SJ o.t r0) rfl)) hR.rf.SC;have a0:=Td (n:=o.n.toNat) J m0 (by omega);have am:=xq hR.rf.ok;obtain⟨ao,cap,a1⟩:=bn E.FX
  obtain⟨bx,a6⟩:∃b,b=D.heap.size:=⟨_,rfl⟩
  have a9:=E.sl;have x0:_=some sv:=E.cell 0;have F:Kp (λ_=>False) D ((D.alloc (.cells #[.pointer (some ⟨xb,0,none⟩),.pointer (some ⟨p.yb,0,none⟩)] 181)).alloc (.cells #[.pointer (some ⟨D.heap.size,0,none⟩)] 140)):=((Kp.refl _ _).alloc _).alloc _
  have aI:((D.alloc (.cells #[.pointer (some ⟨xb,0,none⟩),.pointer (some ⟨p.yb,0,none⟩)] 181)).alloc (.cells #[.pointer (some ⟨D.heap.size,0,none⟩)] 140)).heap[D.heap.size]? =some (.cells #[.pointer (some ⟨xb,0,none⟩),.pointer (some ⟨p.yb,0,none⟩)] 181 (0,0)):=by rw[cQ _ _ _ (by simp)];exact an _ _
  obtain⟨gs,cs,Z,vV,o6,WD,be⟩:=dV (P:=prog) ((D.alloc (.cells #[.pointer (some ⟨xb,0,none⟩),.pointer (some ⟨p.yb,0,none⟩)] 181)).alloc (.cells #[.pointer (some ⟨D.heap.size,0,none⟩)] 140)) B 73 73 140 i0 (.pointer none) 1 8 underlying73 a8 ba bb bc rfl (by decide) sv Ss.length (Ss.map λs=>.pointer (some ⟨s.b,0,none⟩)) (F.owns E.FX (λ_ _ x=>x)) ⟨D.heap.size+1,0,none⟩ 1 1 [.pointer (some ⟨D.heap.size,0,none⟩)] rfl (by
   have:=fQ (D.alloc (.cells #[.pointer (some ⟨xb,0,none⟩),.pointer (some ⟨p.yb,0,none⟩)] 181)) [.pointer (some ⟨D.heap.size,0,none⟩)] 140;rw[show(D.alloc (.cells #[.pointer (some ⟨xb,0,none⟩),.pointer (some ⟨p.yb,0,none⟩)] 181)).heap.size=D.heap.size+1 by simp]at this
   exact this) (by intro u hu;simp at hu;subst hu;rfl) (by decide) (by unfold maxLen;omega) (by omega) (bA (bA O.out.size.1 X.size) F.size)
  have KG:=(F.mono (λ_ _ x=>x.elim)).trans' ((Kp.refl (λi=>sv.ownBlock=some i) _).grown WD (λi hi _=>hi)) (λ_ _ x=>x);have xJ:=KG.at_ E.bO (aZ E.FX E.bO (by decide))
  have d0:Z.cell? ⟨wb,0,none⟩=some sv:=by rw[World.cell?,xJ];rfl
  have f0:Z.frozen? ⟨wb,0,none⟩=false:=by simp[World.frozen?,xJ]
  have K7:Kp (λi=>i=wb) Z (Z.setCell ⟨wb,0,none⟩ (.slice (some ⟨gs,0,none⟩) (Ss.length+1) cs)):=(Kp.refl _ _).setCell (by intro _;rfl) _
  have AP:(Z.setCell ⟨wb,0,none⟩ (.slice (some ⟨gs,0,none⟩) (Ss.length+1) cs)).heap[wb]? =some (.cells (Ti (.slice (some ⟨gs,0,none⟩) (Ss.length+1) cs) iv nv mv qv k) 77 (0,0)):=by rw[ak _ xJ];rfl
  have o7:=K7.owns o6 (λq hq e=>aZ o6 xJ (by decide) (by rw[hq,e]));have KZ:Kp (λi=>i=wb\/sv.ownBlock=some i) _ _:=(KG.mono (λ_ _ e=>.inr e)).trans' K7 (λ_ _ e=>.inl e)
  have aS:zU _ ⟨D.heap.size,xb,tb,pc,(Ch.read o.t).2.2,pN (Ch.read o.t).2.2 o.n.toNat,kv,p,av,[(df (Ch.read o.t).2.2).1],(df (Ch.read o.t).2.2).2.1,o.t⟩:=⟨aI,(hS.au K3).au F,hR.au F,a0,J⟩
  have aa:Kp (λi=>i=wb\/sv.ownBlock=some i) _ _:=((Kp.refl _ _).grown WD (λi hi _=>.inr hi)).trans' K7 (λ_ _ e=>.inl e)
  have aO:=aS.oD aa (λb hb c T hc=>by
   have a5:=F.at_ E.bO (λx=>x);have a4:=F.owns E.FX (λ_ _ x=>x)
   have hT:T=77\/T=140:=by
    rcases hb with rfl|e
    ·exact .inl (xw hc a5)
    obtain⟨c',a7⟩:=bz a4 e;exact .inr (xw hc a7)
   unfold FV FW C2 FM
   rcases hT with rfl|rfl<;>decide)
  have z1:=K1.size;have z2:=U.size;have z3:=K3.size
  have HL:=af (E.more KZ AP o7 aO (H:=w.heap.size) O.out.size.1 (λi hi=>by
   rcases hi with e|e|e
   ·have:i=D.heap.size:=e
    omega
   ·have:=aj i e;omega
   have:=ad i e;omega) (λi a ha q hq=>(O.out.sb i a ha).low hq) ⟨rfl,am,rfl⟩)
  have HK:=af ((X.mono (S':=λi=>B<=i) (λ_ _ x=>x.elim)).trans' KZ (λi _ e=>by
   rcases e with e|e
   ·have:=O.out.hB;omega
   exact(E.FX.lt i e).1))
  rw[a1]at x0 d0 vV;clear Q2 Q3 K1 U K3 X E hS hR aj ad a0 J am F aI o6 WD be KG xJ K7 AP o7 KZ aS aa aO O a9 a1 a6 z1 z2 z3 G r0 m0 Y
  go_wp2_with (at_builtin;refine fX rfl (.tmp 43) (.tmp 48) 73 rfl _ _ (.slice (some ⟨gs,0,none⟩) (Ss.length+1) cs) Z rfl rfl vV ?_)
  go_ret;exact⟨rfl,⟨_,_,HL.out⟩,HK.out⟩
 obtain rfl:=Q2.1 (by rw[G.out];exact Y);obtain rfl:=Q3.1 (by rw[G.out];exact Y);have HZ:=af (ae (E.up (cJ N) (aC M)) (X.mono (S':=λi=>B<=i) (λ_ _ x=>x.elim)));clear Q2 Q3 K1 U K3 X E;go_wp2;go_ret;exact⟨rfl,⟨_,_,HZ.out.1⟩,HZ.out.2⟩
end
namespace Ch
theorem SI.asks{ol:Ol}{x:Sv}{all:List Sd}{log:ByteArray}(h:SI ol x all log)(u:Int)(r:Rq):SI ol (oP x u r).1 all log/\(oP x u r).1.aU=x.aU:=by
 unfold oP
 split
 ·simp_all
 rename_i k hk
 have hu:x.ah[u.toNat]? =some k:=by
  grind[qK]
 split
 ·simp_all
 rename_i c
 split
 ·rename_i D
  exact⟨h.ask hu (by simpa using c) D,rfl⟩
 simp_all
end Ch
theorem FZ{w:World}{ob:Nat}{o:zZ}(h:w.heap[ob]? =some (.cells (uT o) 81 (0,0))):∀j v,([.int .i64 o.rk,.string o.re,.int .i64 o.ra]:List Value)[j]? =some v->w.cell? ⟨ob,11+j,none⟩=some v:=by
 intro j v D;rw[World.cell?,h];have:j<3:=(aJ.1 D).1
 rcases(by omega:j=0\/j=1\/j=2)with rfl|rfl|rfl<;>exact D
def xy(k:Int)(n:Nat):Nat:=if k<0\/(n:Int)<=k then 0 else k.toNat
section
variable (w:World)
theorem Nh(k:Int)(n:Nat):
 Calls prog 103 #[.int .i64 k,.int .i64 n] w λx w'=>x= .returned (.int .i64 (xy k n))/\w'=w:=by
 by_cases q:k<0
 ·have H:=af (show xy k n=0 from aq (.inl q))
  go_enter func103,ntmps103
  go_wp2;go_ret;exact⟨by rw[H.out];rfl,rfl⟩
 by_cases D:(n:Int)<=k
 ·have H:=af (show xy k n=0 from aq (.inr D))
  go_enter func103,ntmps103
  go_wp2;go_ret;exact⟨by rw[H.out];rfl,rfl⟩
 have H:=af (show((xy k n:Nat):Int)=k by unfold xy;rw[ay (by omega)];omega)
 go_enter func103,ntmps103
 go_wp2;go_ret;exact⟨by rw[H.out];rfl,rfl⟩
end
theorem Qs{k:Int}{n:Nat}(h:0<n):xy k n<n:=by unfold xy;split<;>omega
theorem j8.au{w w' w'':World}{p:Rl}{ol:Ol}{av:Value}{x':Sv}{all:List Sd}{log:ByteArray}(q:j8 w w' p ol av x' all log)(K:Kp (λ_=>False) w' w''):j8 w w'' p ol av x' all log:=by
 obtain⟨G,E,F,D⟩:=q;exact⟨G,E.au K,F,D.trans' K (λ_ _ x=>x.elim)⟩
section
variable (w:World) {B wb:Nat} {nv qv:Value} {N M:Nat} {Ss:List Sx} {sv iv mv:Value} {es:List (Value×Nat×Int)} {k:Int}
theorem I2(h:wX w B wb nv qv N M Ss sv iv mv es k)(o:zZ)(hN:N<=10000000)(hM:M<=100000000):
 Calls prog 66 #[.pointer (some ⟨wb,0,none⟩),.agg (uT o)] w λy w'=>y= .returned (.bool true)/\(∃Uu Nj JY mv' aO k',wX w' B wb nv qv (N+1) (M+1) Uu Nj JY mv' aO k')/\Kp (λi=>B<=i) w w':=by
 obtain⟨d,hd,kJ⟩:=Oh;obtain⟨dq,N1,AL⟩:=JS;obtain⟨dr,a1,eJ⟩:=mz;have am:=an w (.cells (uT o) 81);have K1:Kp (λ_=>False) w (w.alloc (.cells (uT o) 81)):=(Kp.refl _ _).alloc _;have h1:=h.au K1;have bk:=bA h.sl hN;have aI:_=some (uT o).size:=GX
 go_enter func66,ntmps66
 go_upto_region 1 with(fail)
 have YS:∀{i:Nat} {s:Sx},Ss[i]? =some s->∀q,IZ s q->q<w.heap.size:=λhi q hq=>(h.sb _ _ hi).low hq
 clear h;generalize w.alloc (.cells (uT o) 81)=w1 at*;generalize w.heap.size=ob at*
 have c0:w1.cell? ⟨ob,0,none⟩=some (.int .i64 o.kind):=by rw[World.cell?,am];rfl
 have a9:w1.cell? ⟨ob,10,none⟩=some (.int .i64 o.at_):=by rw[World.cell?,am];rfl
 by_cases q7:o.kind=7
 ·have E:=af (Qr w1 h1 o hN)
  rw[q7]at c0;have HK:=af K1;clear h1 K1;generalize uT o=OA at*
  go_wp2_with (refine jO am hd kJ aI ?_)
  refine hm E ?_;rintro x Y ⟨rfl,⟨Uu,Nj,L2⟩,K2⟩;have HZ:=af (ae (L2.up (aC _) (cJ M)) ((HK.out.mono (S':=λi=>B<=i) (λ_ _ x=>x.elim)).trans K2));clear E L2 K2;go_wp2;go_ret;exact⟨rfl,⟨_,_,_,_,_,_,HZ.out.1⟩,HZ.out.2⟩
 have bo:(o.kind==7)=false:=by simpa using q7
 obtain⟨ao,cap,aj⟩:=bn h1.FX;have x0:_=some sv:=h1.cell 0;rw[aj]at x0
 by_cases hz:Ss.length=0
 ·rw[hz]at x0
  have HZ:=af (ae (h1.up (cJ N) (cJ M)) (K1.mono (S':=λi=>B<=i) (λ_ _ x=>x.elim)));clear h1 K1 aj;go_wp2;go_ret;exact⟨rfl,⟨_,_,_,_,_,_,HZ.out.1⟩,HZ.out.2⟩
 have bm:((Ss.length:Int)==0)=false:=by rw[pV];omega
 have EP:=af (λW=>Nh W o.at_ Ss.length);have a3:=Qs (k:=o.at_) (n:=Ss.length) (by omega);generalize xy o.at_ Ss.length=i at*
 have ba:(i:Int)<(Ss.length:Int):=by omega
 obtain⟨s,hi⟩:∃s,Ss[i]? =some s:=⟨_,ar a3⟩
 obtain⟨g,cp,hg,_⟩:=cR h1.FX (by omega);rw[aj]at hg;simp only[aK,bS]at hg;obtain⟨rfl,-⟩:=hg
 have xg:w1.cell? ⟨g,i,none⟩=some (.pointer (some ⟨s.b,0,none⟩)):=by
  have:=h1.FX;rw[aj]at this;exact(bP this i (by simpa using a3)).trans (by rw[bw,hi];rfl)
 have HX:=af (ae h1 (ae K1 (ae hi (λq hq=>YS hi q hq))));clear h1 K1 aj YS hz
 go_upto_region 5 with(fail)
 go_cut [5]from 27 to 40 (λv wx=>v= .pointer (some ⟨s.b,0,none⟩)/\Kp (λ_=>False) w1 wx)
 case first=>
  go_quiet ((go_at_call 103;exact iZ (eE EP _)))
  go_wp2
  go_meet
  exact⟨rfl,(Kp.refl _ _).drewN _⟩
 case rest=>
  obtain⟨rfl,K2⟩:=hcut;have h2:=HX.out.1.au K2;have hs:=h2.sb i s HX.out.2.2.1;have sr:=K2.at_ am (λx=>x);have O:=hs.pair;have KX:=HX.out.2.1.trans K2;have a2:=HX.out.2.2.2;have ap:=K2.bX c0;generalize wc=Y at*;clear wc;have hi:=HX.out.2.2.1;clear HX K2 c0 a9 x0 xg EP;obtain⟨b1,b2,b3⟩:=h2.bd i s hi;have a7:=h2.size;have be:=hs.sv.low
  have JZ:=λq hq=>a2 q (.inr (.inl hq))
  have BU:=λq hq=>a2 q (.inr (.inr hq))
  have a6:=hs.rv.rf.ok
  by_cases q8:o.kind=8
  ·rw[q8]at ap
   have E1:=af (P9 Y.drew (hs.sv.au ((Kp.refl _ _).drewN 1)) o.n ⟨o.rk,o.re,o.ra⟩);have HS:=af (hs.si.asks o.n ⟨o.rk,o.re,o.ra⟩);have HX:=af (ae h2 (ae hs KX));clear h2 KX;generalize aS:oP s.x o.n ⟨o.rk,o.re,o.ra⟩=AS at*;have a8:=af aS;clear aS
   go_upto_region 8 with(fail)
   have D:Y.drew.heap[ob]? =some (.cells (uT o) 81 (0,0))/\Y.drew.heap[s.b]? =some (.cells #[.pointer (some ⟨s.xb,0,none⟩),.pointer (some ⟨s.p.yb,0,none⟩)] 181 (0,0)):=⟨sr,O⟩
   refine bf (λw'=>w'.heap[ob]? =some (.cells (uT o) 81 (0,0))/\w'.heap[s.b]? =some (.cells #[.pointer (some ⟨s.xb,0,none⟩),.pointer (some ⟨s.p.yb,0,none⟩)] 181 (0,0))) (by kernel_rfl) ?_;refine bM 0 45 (.pointer (some ⟨s.b,0,none⟩)) D ?_;refine bM 1 46 (.pointer (some ⟨s.b,0,none⟩)) D ?_;refine bM 2 47 (.pointer (some ⟨s.b,0,none⟩)) D ?_;refine eG 3 48 (.pointer (some ⟨s.xb,0,none⟩)) rfl (λw' hS=>by simp[execOp,Act.eval,go_sem,show w'.cell? ⟨s.b,0,none⟩=some (.pointer (some ⟨s.xb,0,none⟩))by rw[World.cell?,hS.2];rfl]) D ?_;refine bM 4 49 (.pointer (some ⟨ob,9,none⟩)) D ?_;refine eG 5 50 (.int .i64 o.n) rfl (λw' hS=>by simp[execOp,Act.eval,go_sem,show w'.cell? ⟨ob,9,none⟩=some (.int .i64 o.n)by rw[World.cell?,hS.1];rfl]) D ?_;refine bM 6 51 (.pointer (some ⟨ob,11,none⟩)) D ?_;refine eG 7 52 (.agg (r_ ⟨o.rk,o.re,o.ra⟩)) rfl (λw' hS=>eo 79 (.tmp 51) rfl ob 11 rfl [.int .i64 o.rk,.string o.re,.int .i64 o.ra] dq (FZ hS.1) N1 AL IG) D ?_;refine oX 8 ?_;refine dW (some 53) rfl 60 #[.pointer (some ⟨s.xb,0,none⟩),.int .i64 o.n,.agg (r_ ⟨o.rk,o.re,o.ra⟩)] (by simp[execOp,Act.eval,go_sem]) (.int .i64 AS.2) _ (E1).out ?_;intro I J
   have F:I.heap[ob]? =some (.cells (uT o) 81 (0,0)):=by obtain⟨_,_,_,K5⟩:=J;exact K5.at_ sr (λx=>by have:=JZ _ x;omega)
   have Ts:=g_.trans ((Kp.refl _ _).drewN 1) (λ_ e=>.inl e) J;have U:=hs.xf (Ts.choose_spec.2.2);have G:=U.2;refine⟨⟨F,G⟩,?_⟩;simp only[Act.put,pA,pB,pC];refine tk 9 6 (.int .i64 AS.2) rfl (by kernel_rfl) rfl rfl (λw' _=>by simp[execOp,Act.eval,go_sem]) ⟨F,G⟩ ?_;simp only[Act.put,pA,pB,pC];refine bF (by kernel_rfl) (bG ?_) _;have E2:=af (Qi I.drew (U.1.au ((Kp.refl _ _).drewN 1)) o.n ⟨o.rk,o.re,o.ra⟩);rw[a8.out]at E2;have HQ:=af (ae Ts U);clear E1 J Ts U sr O D;replace sr:=F;replace O:=G;clear F G;generalize I=w6 at*
   go_upto_region 9 with(fail)
   have D:w6.drew.heap[ob]? =some (.cells (uT o) 81 (0,0))/\w6.drew.heap[s.b]? =some (.cells #[.pointer (some ⟨s.xb,0,none⟩),.pointer (some ⟨s.p.yb,0,none⟩)] 181 (0,0)):=⟨sr,O⟩
   refine bf (λw'=>w'.heap[ob]? =some (.cells (uT o) 81 (0,0))/\w'.heap[s.b]? =some (.cells #[.pointer (some ⟨s.xb,0,none⟩),.pointer (some ⟨s.p.yb,0,none⟩)] 181 (0,0))) (by kernel_rfl) ?_;refine bM 0 54 (.pointer (some ⟨s.b,0,none⟩)) D ?_;refine bM 1 55 (.pointer (some ⟨s.b,0,none⟩)) D ?_;refine bM 2 56 (.pointer (some ⟨s.b,1,none⟩)) D ?_;refine eG 3 57 (.pointer (some ⟨s.p.yb,0,none⟩)) rfl (λw' hS=>by simp[execOp,Act.eval,go_sem,show w'.cell? ⟨s.b,1,none⟩=some (.pointer (some ⟨s.p.yb,0,none⟩))by rw[World.cell?,hS.2];rfl]) D ?_;refine bM 4 58 (.pointer (some ⟨ob,9,none⟩)) D ?_;refine eG 5 59 (.int .i64 o.n) rfl (λw' hS=>by simp[execOp,Act.eval,go_sem,show w'.cell? ⟨ob,9,none⟩=some (.int .i64 o.n)by rw[World.cell?,hS.1];rfl]) D ?_;refine bM 6 60 (.pointer (some ⟨ob,11,none⟩)) D ?_;refine eG 7 61 (.agg (r_ ⟨o.rk,o.re,o.ra⟩)) rfl (λw' hS=>eo 79 (.tmp 60) rfl ob 11 rfl [.int .i64 o.rk,.string o.re,.int .i64 o.ra] dq (FZ hS.1) N1 AL IG) D ?_;refine oX 8 ?_;refine dW (some 62) rfl 104 #[.pointer (some ⟨s.p.yb,0,none⟩),.int .i64 o.n,.agg (r_ ⟨o.rk,o.re,o.ra⟩)] (by simp[execOp,Act.eval,go_sem]) (.int .i64 AS.2) _ (E2).out ?_;intro I J
   have F:I.heap[ob]? =some (.cells (uT o) 81 (0,0)):=by obtain⟨_,_,_,K5⟩:=J;exact K5.at_ sr (λx=>by have:=BU _ x;omega)
   have V_:=j8.trans ((Kp.refl _ _).drewN 1) (λ_ e=>.inl e) J;have SQ:=HX.out.2.1.step HQ.out.1 V_ HS.out.1
   have G:I.heap[s.b]? =some (.cells #[.pointer (some ⟨s.xb,0,none⟩),.pointer (some ⟨s.p.yb,0,none⟩)] 181 (0,0)):=by obtain⟨_,_,h5,_⟩:=SQ;exact h5.pair
   refine⟨⟨F,G⟩,?_⟩;simp only[Act.put,pA,pB,pC];refine tk 9 7 (.int .i64 AS.2) rfl (by kernel_rfl) rfl rfl (λw' _=>by simp[execOp,Act.eval,go_sem]) ⟨F,G⟩ ?_;simp only[Act.put,pA,pB,pC];refine bF (by kernel_rfl) (bG ?_) _;obtain⟨⟨Uu,L5⟩,K5⟩:=HX.out.1.served hi SQ a7.1 (cJ _) (Nat.le_add_right _ _) (by rw[HS.out.2];exact cJ _);have HZ:=af (ae (L5.up (aC _) (cJ M)) ((HX.out.2.2.mono (S':=λi=>B<=i) (λ_ _ x=>x.elim)).trans K5));have EN:=af (xQ I AS.2);clear E2 J V_ SQ F G sr O L5 K5 HX HQ D;generalize AS.2=e at*
   go_wp2_with fail
   refine hm EN ?_;rintro x w7 ⟨rfl,e7⟩;rw[e7];clear e7 w7
   go_wp2_with fail
   refine hm EN ?_;rintro x w7 ⟨rfl,e7⟩;rw[e7];clear e7 w7;go_wp2;go_ret;exact⟨by simp,⟨_,_,_,_,_,_,HZ.out.1⟩,HZ.out.2⟩
  have br:(o.kind==8)=false:=by simpa using q8
  by_cases q9:o.kind=9
  ·rw[q9]at ap
   have bc:=aR sr
   have ad:s.log.size<=100000000000000000:=by
    have:=Nat.mul_le_mul_left 2000000000 hN;refine bA b2 (bA (Nat.add_le_add_left this _) (by decide))
   have a0:=hs.si.bd (by omega) ad (by omega)
   have E1:∀W,Kp (λ_=>False) Y W->Hid (Calls prog 38 #[.pointer (some ⟨s.xb,0,none⟩),.int .i64 o.n] W λr w'=>r= .returned (.tuple #[.agg (bJ (b8 s.ol s.x o.n).2.1),.bool (b8 s.ol s.x o.n).2.2.1,.int .i64 (b8 s.ol s.x o.n).2.2.2])/\g_ W w' s.xb s.tb 138 s.pc s.ol s.kv (b8 s.ol s.x o.n).1):=λW K=>af (MY W (hs.sv.au K) a0 a6 o.n (λt ht=>by
    have hu:s.x.ah[o.n.toNat]? =some t:=by
     unfold qK at ht
     split at ht
     ·exact ht
     cases ht
    exact hs.si.Ul hs.rd a6 hu))
   have E2:∀W,jz W s.p s.ol s.x s.all s.log s.av->Hid (Calls prog 105 #[.pointer (some ⟨s.p.yb,0,none⟩),.int .i64 o.n] W λr w'=>r= .returned (.tuple #[.agg (bJ (b8 s.ol s.x o.n).2.1),.bool (b8 s.ol s.x o.n).2.2.1,.int .i64 (b8 s.ol s.x o.n).2.2.2])/\∃all' log',j8 W w' s.p s.ol s.av (b8 s.ol s.x o.n).1 all' log'/\SI s.ol (b8 s.ol s.x o.n).1 all' log'/\all'.length<=s.all.length+1/\log'.size<=s.log.size+2000000000/\(b8 s.ol s.x o.n).1.aU<=s.x.aU+1):=λW hW=>af ((Nf W hW hs.si hs.rd o.n (by omega) ad (by omega)).mono (λy w' hy=>by
    obtain⟨all',log',e1,e2,e3,e4,e5,e6⟩:=hy
    exact⟨e1,all',log',e2,e3,e4,e5,e6⟩))
   have HX:=af (ae h2 KX);clear h2 KX b1 b2 b3 a0 ad;generalize b8 s.ol s.x o.n=R at*;obtain⟨x',X,d,Z⟩:=R;simp only at E1 E2
   go_upto_region 12 with(fail)
   go_cut [8,9,10]from 70 to 80 (λp a b wx=>∃rb,p= .pointer (some ⟨rb,0,none⟩)/\a= .bool d/\b= .int .i64 Z/\wx.heap[rb]? =some (.cells (bJ X) 64 (0,0))/\wx.heap[ob]? =some (.cells (uT o) 81 (0,0))/\g_ Y wx s.xb s.tb 138 s.pc s.ol s.kv x'/\Y.heap.size<=rb)
   case first=>
    have D:Y.drew.heap[ob]? =some (.cells (uT o) 81 (0,0))/\Y.drew.heap[s.b]? =some (.cells #[.pointer (some ⟨s.xb,0,none⟩),.pointer (some ⟨s.p.yb,0,none⟩)] 181 (0,0)):=⟨sr,O⟩
    refine bf (λw'=>w'.heap[ob]? =some (.cells (uT o) 81 (0,0))/\w'.heap[s.b]? =some (.cells #[.pointer (some ⟨s.xb,0,none⟩),.pointer (some ⟨s.p.yb,0,none⟩)] 181 (0,0))) (by kernel_rfl) ?_;refine bM 0 71 (.pointer (some ⟨s.b,0,none⟩)) D ?_;refine bM 1 72 (.pointer (some ⟨s.b,0,none⟩)) D ?_;refine bM 2 73 (.pointer (some ⟨s.b,0,none⟩)) D ?_;refine eG 3 74 (.pointer (some ⟨s.xb,0,none⟩)) rfl (λw' hS=>by simp[execOp,Act.eval,go_sem,show w'.cell? ⟨s.b,0,none⟩=some (.pointer (some ⟨s.xb,0,none⟩))by rw[World.cell?,hS.2];rfl]) D ?_;refine bM 4 75 (.pointer (some ⟨ob,9,none⟩)) D ?_;refine eG 5 76 (.int .i64 o.n) rfl (λw' hS=>by simp[execOp,Act.eval,go_sem,show w'.cell? ⟨ob,9,none⟩=some (.int .i64 o.n)by rw[World.cell?,hS.1];rfl]) D ?_;refine rh 6 11 (by kernel_rfl) rfl rfl rfl rfl ?_ ?_
    ·refine dW (some 77) rfl 38 #[.pointer (some ⟨s.xb,0,none⟩),.int .i64 o.n] (by simp[execOp,Act.eval,go_sem]) (.tuple #[.agg (bJ X),.bool d,.int .i64 Z]) _ (E1 Y.drew ((Kp.refl _ _).drewN 1)).out ?_
     intro I J;have F:=J.at_ JZ sr;have Ts:=g_.trans ((Kp.refl _ _).drewN 1) (λ_ e=>.inl e) J;have G:=(hs.xf Ts.choose_spec.2.2).2;have pP:=an I (.cells aH 64);have J6:Kp (λ_=>False) I ((I.alloc (.cells aH 64)).setRow I.heap.size (bJ X)):=((Kp.refl _ _).alloc _).setRow (λx=>by omega) _;have J5:Kp (λ_=>False) I (I.alloc (.cells aH 64)):=(Kp.refl _ _).alloc _;refine⟨⟨F,G⟩,?_⟩;simp only[Act.put,pA,pB,pC];refine tk 7 70 (.tuple #[.agg (bJ X),.bool d,.int .i64 Z]) rfl (by kernel_rfl) rfl rfl (λw' _=>by simp[execOp,Act.eval,go_sem]) ⟨F,G⟩ ?_;simp only[Act.put,pA,pB,pC];refine tk 8 78 (.agg (bJ X)) rfl (by kernel_rfl) rfl rfl (λw' _=>by simp[execOp,Act.eval,go_sem]) ⟨F,G⟩ ?_;simp only[Act.put,pA,pB,pC];refine tk 9 79 (.bool d) rfl (by kernel_rfl) rfl rfl (λw' _=>by simp[execOp,Act.eval,go_sem]) ⟨F,G⟩ ?_;simp only[Act.put,pA,pB,pC];refine tk 10 80 (.int .i64 Z) rfl (by kernel_rfl) rfl rfl (λw' _=>by simp[execOp,Act.eval,go_sem]) ⟨F,G⟩ ?_;simp only[Act.put,pA,pB,pC];refine oX 11 ?_;refine gI (some 8) rfl (.pointer (some ⟨I.heap.size,0,none⟩)) (I.alloc (.cells aH 64)) (by simp[execOp,go_sem]) ?_;simp only[Act.put,pA,pB,pC];refine⟨⟨J5.at_ F (λx=>x),J5.at_ G (λx=>x)⟩,?_⟩;refine cK 12 (by kernel_rfl) rfl rfl 64 (.tmp 8) (.tmp 78) rfl rfl I.heap.size (bJ X) (by simp[Act.eval]) (by simp[Act.eval]) 64 aH pP aQ rfl (cE _) ⟨J6.at_ F (λx=>x),J6.at_ G (λx=>x)⟩ ?_;refine tk 13 9 (.bool d) rfl (by kernel_rfl) rfl rfl (λw' _=>by simp[execOp,Act.eval,go_sem]) ⟨J6.at_ F (λx=>x),J6.at_ G (λx=>x)⟩ ?_;simp only[Act.put,pA,pB,pC];refine tk 14 10 (.int .i64 Z) rfl (by kernel_rfl) rfl rfl (λw' _=>by simp[execOp,Act.eval,go_sem]) ⟨J6.at_ F (λx=>x),J6.at_ G (λx=>x)⟩ ?_;simp only[Act.put,pA,pB,pC];refine bF (by kernel_rfl) (bG ?_) _;go_wp2
     go_meet
     exact⟨I.heap.size,rfl,rfl,rfl,ax _ _ _ _ _ _ pP,J6.at_ F (λx=>x),Ts.au J6,Ts.choose_spec.2.2.size⟩
    refine gI (some 8) rfl (.pointer (some ⟨Y.heap.size,0,none⟩)) (Y.drew.alloc (.cells aH 64)) (by simp[execOp,go_sem]) ?_;simp only[Act.put,pA,pB,pC];have J4:Kp (λ_=>False) Y (Y.drew.alloc (.cells aH 64)):=((Kp.refl _ _).drewN 1).alloc _;have qO:=an Y.drew (.cells aH 64);have Qt:=J4.at_ sr (λx=>x);have Wa:=J4.at_ O (λx=>x);refine⟨⟨Qt,Wa⟩,?_⟩;refine oX 6 ?_;refine dW (some 77) rfl 38 #[.pointer (some ⟨s.xb,0,none⟩),.int .i64 o.n] (by simp[execOp,Act.eval,go_sem]) (.tuple #[.agg (bJ X),.bool d,.int .i64 Z]) _ (E1 _ J4).out ?_;intro I J;have F:=J.at_ JZ Qt;have Ts:=g_.trans (J4.mono (λ_ _ x=>x.elim)) (λ_ e=>.inl e) J;have G:=(hs.xf Ts.choose_spec.2.2).2;have rX:I.heap[Y.heap.size]? =_:=J.at_ (λq hq=>by have:=JZ q hq;omega) qO;refine⟨⟨F,G⟩,?_⟩;simp only[Act.put,pA,pB,pC];refine tk 7 70 (.tuple #[.agg (bJ X),.bool d,.int .i64 Z]) rfl (by kernel_rfl) rfl rfl (λw' _=>by simp[execOp,Act.eval,go_sem]) ⟨F,G⟩ ?_;simp only[Act.put,pA,pB,pC];refine tk 8 78 (.agg (bJ X)) rfl (by kernel_rfl) rfl rfl (λw' _=>by simp[execOp,Act.eval,go_sem]) ⟨F,G⟩ ?_;simp only[Act.put,pA,pB,pC];refine tk 9 79 (.bool d) rfl (by kernel_rfl) rfl rfl (λw' _=>by simp[execOp,Act.eval,go_sem]) ⟨F,G⟩ ?_;simp only[Act.put,pA,pB,pC];refine tk 10 80 (.int .i64 Z) rfl (by kernel_rfl) rfl rfl (λw' _=>by simp[execOp,Act.eval,go_sem]) ⟨F,G⟩ ?_;simp only[Act.put,pA,pB,pC];have J7:=(Kp.refl (λi=>i=Y.heap.size) I).setRow (g:=Y.heap.size) (λ_=>rfl) (bJ X);have F0:=J7.at_ F (by omega);have I3:=J7.at_ G (by have:=aR O;omega);refine cK 12 (by kernel_rfl) rfl rfl 64 (.tmp 8) (.tmp 78) rfl rfl Y.heap.size (bJ X) (by simp[Act.eval]) (by simp[Act.eval]) 64 aH rX aQ rfl (cE _) ⟨F0,I3⟩ ?_;refine tk 13 9 (.bool d) rfl (by kernel_rfl) rfl rfl (λw' _=>by simp[execOp,Act.eval,go_sem]) ⟨F0,I3⟩ ?_;simp only[Act.put,pA,pB,pC];refine tk 14 10 (.int .i64 Z) rfl (by kernel_rfl) rfl rfl (λw' _=>by simp[execOp,Act.eval,go_sem]) ⟨F0,I3⟩ ?_;simp only[Act.put,pA,pB,pC]
    refine bF (by kernel_rfl) (bG ?_) _;go_wp2
    go_meet
    exact⟨Y.heap.size,rfl,rfl,rfl,ax _ _ _ _ _ _ rX,F0,g_.dR (J4.mono (λ_ _ x=>x.elim)) J rX (bJ X),aC _⟩
   case rest=>
    obtain⟨rb,rfl,rfl,rfl,a4,YT,Q3,bi⟩:=hcut;have U:=hs.xf Q3.choose_spec.2.2;have YU:=U.2
    have E3:∀W,Kp (λ_=>False) wc W->_:=λW K=>E2 W (U.1.au K)
    generalize wc=w3 at*;clear wc E1 E2;replace sr:=YT;replace O:=YU;clear YT YU;have bb:=aR sr
    go_upto_region 13 with(fail)
    go_cut [11,12,13]from 81 to 91 (λp a b wx=>∃rc,p= .pointer (some ⟨rc,0,none⟩)/\a= .bool d/\b= .int .i64 Z/\wx.heap[rc]? =some (.cells (bJ X) 64 (0,0))/\∃all' log',j8 w3 wx s.p s.ol s.av x' all' log'/\SI s.ol x' all' log'/\all'.length<=s.all.length+1/\log'.size<=s.log.size+2000000000/\x'.aU<=s.x.aU+1)
    case first=>
     have D:w3.drew.heap[ob]? =some (.cells (uT o) 81 (0,0))/\w3.drew.heap[s.b]? =some (.cells #[.pointer (some ⟨s.xb,0,none⟩),.pointer (some ⟨s.p.yb,0,none⟩)] 181 (0,0)):=⟨sr,O⟩
     refine bf (λw'=>w'.heap[ob]? =some (.cells (uT o) 81 (0,0))/\w'.heap[s.b]? =some (.cells #[.pointer (some ⟨s.xb,0,none⟩),.pointer (some ⟨s.p.yb,0,none⟩)] 181 (0,0))) (by kernel_rfl) ?_;refine bM 0 82 (.pointer (some ⟨s.b,0,none⟩)) D ?_;refine bM 1 83 (.pointer (some ⟨s.b,0,none⟩)) D ?_;refine bM 2 84 (.pointer (some ⟨s.b,1,none⟩)) D ?_;refine eG 3 85 (.pointer (some ⟨s.p.yb,0,none⟩)) rfl (λw' hS=>by simp[execOp,Act.eval,go_sem,show w'.cell? ⟨s.b,1,none⟩=some (.pointer (some ⟨s.p.yb,0,none⟩))by rw[World.cell?,hS.2];rfl]) D ?_;refine bM 4 86 (.pointer (some ⟨ob,9,none⟩)) D ?_;refine eG 5 87 (.int .i64 o.n) rfl (λw' hS=>by simp[execOp,Act.eval,go_sem,show w'.cell? ⟨ob,9,none⟩=some (.int .i64 o.n)by rw[World.cell?,hS.1];rfl]) D ?_;refine rh 6 11 (by kernel_rfl) rfl rfl rfl rfl ?_ ?_
     ·refine dW (some 88) rfl 105 #[.pointer (some ⟨s.p.yb,0,none⟩),.int .i64 o.n] (by simp[execOp,Act.eval,go_sem]) (.tuple #[.agg (bJ X),.bool d,.int .i64 Z]) _ (E3 w3.drew ((Kp.refl _ _).drewN 1)).out ?_
      intro I J;obtain⟨all',log',J,aa,c1,c2,c3⟩:=J;have F:=J.zero BU sr;have V_:=j8.trans ((Kp.refl _ _).drewN 1) (λ_ e=>.inl e) J
      have G:I.heap[s.b]? =some (.cells #[.pointer (some ⟨s.xb,0,none⟩),.pointer (some ⟨s.p.yb,0,none⟩)] 181 (0,0)):=by obtain⟨_,_,h5,_⟩:=hs.step Q3 V_ aa;exact h5.pair
      have pP:=an I (.cells aH 64);have J6:Kp (λ_=>False) I ((I.alloc (.cells aH 64)).setRow I.heap.size (bJ X)):=((Kp.refl _ _).alloc _).setRow (λx=>by omega) _;have J5:Kp (λ_=>False) I (I.alloc (.cells aH 64)):=(Kp.refl _ _).alloc _;refine⟨⟨F,G⟩,?_⟩;simp only[Act.put,pA,pB,pC];refine tk 7 81 (.tuple #[.agg (bJ X),.bool d,.int .i64 Z]) rfl (by kernel_rfl) rfl rfl (λw' _=>by simp[execOp,Act.eval,go_sem]) ⟨F,G⟩ ?_;simp only[Act.put,pA,pB,pC];refine tk 8 89 (.agg (bJ X)) rfl (by kernel_rfl) rfl rfl (λw' _=>by simp[execOp,Act.eval,go_sem]) ⟨F,G⟩ ?_;simp only[Act.put,pA,pB,pC];refine tk 9 90 (.bool d) rfl (by kernel_rfl) rfl rfl (λw' _=>by simp[execOp,Act.eval,go_sem]) ⟨F,G⟩ ?_;simp only[Act.put,pA,pB,pC];refine tk 10 91 (.int .i64 Z) rfl (by kernel_rfl) rfl rfl (λw' _=>by simp[execOp,Act.eval,go_sem]) ⟨F,G⟩ ?_;simp only[Act.put,pA,pB,pC];refine oX 11 ?_;refine gI (some 11) rfl (.pointer (some ⟨I.heap.size,0,none⟩)) (I.alloc (.cells aH 64)) (by simp[execOp,go_sem]) ?_;simp only[Act.put,pA,pB,pC];refine⟨⟨J5.at_ F (λx=>x),J5.at_ G (λx=>x)⟩,?_⟩;refine cK 12 (by kernel_rfl) rfl rfl 64 (.tmp 11) (.tmp 89) rfl rfl I.heap.size (bJ X) (by simp[Act.eval]) (by simp[Act.eval]) 64 aH pP aQ rfl (cE _) ⟨J6.at_ F (λx=>x),J6.at_ G (λx=>x)⟩ ?_;refine tk 13 12 (.bool d) rfl (by kernel_rfl) rfl rfl (λw' _=>by simp[execOp,Act.eval,go_sem]) ⟨J6.at_ F (λx=>x),J6.at_ G (λx=>x)⟩ ?_;simp only[Act.put,pA,pB,pC];refine tk 14 13 (.int .i64 Z) rfl (by kernel_rfl) rfl rfl (λw' _=>by simp[execOp,Act.eval,go_sem]) ⟨J6.at_ F (λx=>x),J6.at_ G (λx=>x)⟩ ?_;simp only[Act.put,pA,pB,pC];refine bF (by kernel_rfl) (bG ?_) _;go_wp2
      go_meet
      exact⟨I.heap.size,rfl,rfl,rfl,ax _ _ _ _ _ _ pP,all',log',V_.au J6,aa,c1,c2,c3⟩
     refine gI (some 11) rfl (.pointer (some ⟨w3.heap.size,0,none⟩)) (w3.drew.alloc (.cells aH 64)) (by simp[execOp,go_sem]) ?_;simp only[Act.put,pA,pB,pC];have J4:Kp (λ_=>False) w3 (w3.drew.alloc (.cells aH 64)):=((Kp.refl _ _).drewN 1).alloc _;have qO:=an w3.drew (.cells aH 64);have Qt:=J4.at_ sr (λx=>x);have Wa:=J4.at_ O (λx=>x);refine⟨⟨Qt,Wa⟩,?_⟩;refine oX 6 ?_;refine dW (some 88) rfl 105 #[.pointer (some ⟨s.p.yb,0,none⟩),.int .i64 o.n] (by simp[execOp,Act.eval,go_sem]) (.tuple #[.agg (bJ X),.bool d,.int .i64 Z]) _ (E3 _ J4).out ?_;intro I J;obtain⟨all',log',J,aa,c1,c2,c3⟩:=J;have F:=J.zero BU Qt;have V_:=j8.trans (J4.mono (λ_ _ x=>x.elim)) (λ_ e=>.inl e) J
     have G:I.heap[s.b]? =some (.cells #[.pointer (some ⟨s.xb,0,none⟩),.pointer (some ⟨s.p.yb,0,none⟩)] 181 (0,0)):=by obtain⟨_,_,h5,_⟩:=hs.step Q3 V_ aa;exact h5.pair
     have rX:I.heap[w3.heap.size]? =_:=J.zero (λq hq=>by have:=BU q hq;omega) qO;refine⟨⟨F,G⟩,?_⟩;simp only[Act.put,pA,pB,pC];refine tk 7 81 (.tuple #[.agg (bJ X),.bool d,.int .i64 Z]) rfl (by kernel_rfl) rfl rfl (λw' _=>by simp[execOp,Act.eval,go_sem]) ⟨F,G⟩ ?_;simp only[Act.put,pA,pB,pC];refine tk 8 89 (.agg (bJ X)) rfl (by kernel_rfl) rfl rfl (λw' _=>by simp[execOp,Act.eval,go_sem]) ⟨F,G⟩ ?_;simp only[Act.put,pA,pB,pC];refine tk 9 90 (.bool d) rfl (by kernel_rfl) rfl rfl (λw' _=>by simp[execOp,Act.eval,go_sem]) ⟨F,G⟩ ?_;simp only[Act.put,pA,pB,pC];refine tk 10 91 (.int .i64 Z) rfl (by kernel_rfl) rfl rfl (λw' _=>by simp[execOp,Act.eval,go_sem]) ⟨F,G⟩ ?_;simp only[Act.put,pA,pB,pC];have J7:=(Kp.refl (λi=>i=w3.heap.size) I).setRow (g:=w3.heap.size) (λ_=>rfl) (bJ X);have F0:=J7.at_ F (by omega);have I3:=J7.at_ G (by have:=aR O;omega);refine cK 12 (by kernel_rfl) rfl rfl 64 (.tmp 11) (.tmp 89) rfl rfl w3.heap.size (bJ X) (by simp[Act.eval]) (by simp[Act.eval]) 64 aH rX aQ rfl (cE _) ⟨F0,I3⟩ ?_;refine tk 13 12 (.bool d) rfl (by kernel_rfl) rfl rfl (λw' _=>by simp[execOp,Act.eval,go_sem]) ⟨F0,I3⟩ ?_;simp only[Act.put,pA,pB,pC];refine tk 14 13 (.int .i64 Z) rfl (by kernel_rfl) rfl rfl (λw' _=>by simp[execOp,Act.eval,go_sem]) ⟨F0,I3⟩ ?_;simp only[Act.put,pA,pB,pC];refine bF (by kernel_rfl) (bG ?_) _;go_wp2
     go_meet
     exact⟨w3.heap.size,rfl,rfl,rfl,ax _ _ _ _ _ _ rX,all',log',j8.dR J4 (λq hq=>by have:=BU q hq;omega) J rX (bJ X),aa,c1,c2,c3⟩
    case rest=>
     obtain⟨rc,rfl,rfl,rfl,a5,all',log',Q4,aa,c1,c2,c3⟩:=hcut;have YV:=Q4.zero (λq hq=>by have:=BU q hq;omega) a4;obtain⟨⟨Uu,L5⟩,K5⟩:=HX.out.1.served hi (hs.step Q3 Q4 aa) a7.1 c1 c2 c3;have HZ:=af (ae (L5.up (aC _) (cJ M)) ((HX.out.2.mono (S':=λi=>B<=i) (λ_ _ x=>x.elim)).trans K5));have ES:=af (AO wc X);clear E3 Q4 aa c1 c2 c3 L5 K5 HX Q3 U hs sr O a4
     go_wp2_with (first|refine jO YV a1 eJ aQ ?_|refine jO a5 a1 eJ aQ ?_)
     refine hm ES ?_;rintro x w7 ⟨rfl,K7⟩;have EN:=af (xQ w7 Z);have HF:=af (ae (HZ.out.1.au K7) (HZ.out.2.trans' K7 (λ_ _ x=>x.elim)));clear ES HZ K7 YV a5
     go_wp2_with fail
     refine hm EN ?_;rintro x w8 ⟨rfl,e8⟩;rw[e8];clear e8 w8
     go_wp2_with fail
     refine hm EN ?_;rintro x w8 ⟨rfl,e8⟩;rw[e8];clear e8 w8;go_wp2;go_ret;exact⟨by simp,⟨_,_,_,_,_,_,HF.out.1⟩,HF.out.2⟩
  have bt:(o.kind==9)=false:=by simpa using q9
  have EK:=af (BT Y h2 hi hN hM);have HK:=af KX;clear h2 hs KX
  go_wp2_with fail
  refine hm EK ?_;rintro x w3 ⟨rfl,⟨JY,mv',aO,k',L3⟩,K3⟩;have HZ:=af (ae (L3.up (cJ N) (aC _)) ((HK.out.mono (S':=λi=>B<=i) (λ_ _ x=>x.elim)).trans K3));clear EK L3 K3;go_wp2;go_ret;exact⟨rfl,⟨_,_,_,_,_,_,HZ.out.1⟩,HZ.out.2⟩
end
def NB(wb B K M:Nat)(W:World):Prop:=∃Ss sv iv mv es k,wX W B wb (.slice none 0 0) (.slice none 0 0) K M Ss sv iv mv es k
theorem NB.up{wb B K M D E:Nat}{W:World}(h:NB wb B K M W)(F:K<=D)(G:M<=E):NB wb B D E W:=by
 obtain⟨Ss,sv,iv,mv,es,k,h⟩:=h;exact⟨Ss,sv,iv,mv,es,k,h.up F G⟩
section
variable (w:World) (wb B:Nat)
theorem zV(o:zZ)(K:Nat)(h7:7<=o.kind)(aa:o.kind<=10)(hI:NB wb B K K w)(hK:K<=2000000):
 Calls prog 39 #[.pointer (some ⟨wb,0,none⟩),.agg (uT o)] w λx w'=>x= .returned (.bool true)/\NB wb B (K+1) (K+1) w'/\KB B w w':=by
 obtain⟨d,hd,kJ⟩:=Oh;have D:=an w (.cells (uT o) 81);have G:Kp (λ_=>False) w (w.alloc (.cells (uT o) 81)):=(Kp.refl _ _).alloc _;obtain⟨Ss,sv,iv,mv,es,k,U⟩:=hI;have E:=af (I2 (w.alloc (.cells (uT o) 81)) (U.au G) o (by omega) (by omega));have F:(uT o)[0]? =some (.int .i64 o.kind):=rfl
 have g1:(o.kind==1)=false:=by simp;omega
 have g2:(o.kind==2)=false:=by simp;omega
 have g6:¬o.kind<=6:=by omega
 have g3:3<=o.kind:=by omega
 have iG:=Og o;generalize uT o=J at*
 have Z:(prog.info? 81).map (·.size)=some J.size:=by rw[iG];exact GX
 clear U
 go_enter func39,ntmps39
 go_upto_region 1 with(fail)
 generalize w.alloc (.cells J 81)=w1 at*;generalize w.heap.size=ob at*
 have c0:w1.cell? ⟨ob,0,none⟩=some (.int .i64 o.kind):=by rw[World.cell?,D];exact F
 clear F iG
 go_wp2_with (refine jO D hd kJ Z ?_)
 refine hm E ?_;rintro x X ⟨rfl,O,I⟩;have Y:=af (show NB wb B (K+1) (K+1) X/\KB B w X from⟨O,(G.mono (S':=λi=>B<=i) (λ_ _ x=>x.elim)).trans I⟩);clear E O I;go_wp2;go_ret;exact⟨rfl,Y.out⟩
theorem Ni(K:Nat)(hI:NB wb B K K w)(hK:K<=2000000):
 Calls prog 40 #[.pointer (some ⟨wb,0,none⟩)] w λx w'=>x= .returned (.bool true)/\NB wb B K (2*K) w'/\KB B w w':=by
 obtain⟨Ss,sv,iv,mv,es,k,I⟩:=hI;have am:=I.sl;obtain⟨Z,cap,U⟩:=bn I.FX;subst U;have HL:=af I;clear I
 go_enter func40,ntmps40
 go_wp2_with fail
 go_loopw [3] (λi wr=>∃j:Nat,i= .int .i64 j/\j<=Ss.length/\Hid ((∃iv mv es k,wX wr B wb (.slice none 0 0) (.slice none 0 0) K (K+j) Ss (.slice Z Ss.length cap) iv mv es k)/\KB B w wr)) (λi _=>Ss.length-(intOf i).toNat)
 case atStart=>exact⟨0,rfl,aG _,af ⟨⟨_,_,_,_,HL.out⟩,Kp.refl _ _⟩⟩
 case round=>
  obtain⟨j,rfl,hj,O⟩:=hrel;obtain⟨⟨JY,mv',ad,k',D⟩,G⟩:=O.out;have x0:wr.cell? _=some (.slice Z Ss.length cap):=D.cell 0
  by_cases F:j<Ss.length
  ·have aa:(j:Int)<(Ss.length:Int):=by omega
   obtain⟨s,hs⟩:∃s,Ss[j]? =some s:=⟨_,ar F⟩
   obtain⟨g,cp,hg,_⟩:=cR D.FX (by omega);simp only[aK,bS]at hg;obtain⟨rfl,-⟩:=hg;have xg:wr.cell? ⟨g,j,none⟩=some (.pointer (some ⟨s.b,0,none⟩)):=(bP D.FX j (by simpa using F)).trans (by rw[bw,hs];rfl);have E:=af (BT wr D hs (by omega) (by omega));have HK:=af G;clear D G O
   go_wp2_with fail
   refine hm E ?_;rintro x w2 ⟨rfl,Y,X⟩;have J:=af (ae Y (show KB B w w2 from Kp.trans HK.out X));clear E Y X;go_wp2
   go_roundw
   case rel=>exact⟨j+1,by go_num,by omega,J⟩
   case measure=>simp[intOf];omega
  have aj:¬(j:Int)<(Ss.length:Int):=by omega
  have J:=af (show NB wb B K (2*K) wr/\KB B w wr from⟨⟨_,_,_,_,_,_,D.up (aC _) (by omega)⟩,G⟩);clear D G O;go_wp2;go_ret;exact⟨rfl,J.out⟩
theorem I4(K M:Nat)(hI:NB wb B K M w)(hM:M<=10000000):
 Calls prog 41 #[.pointer (some ⟨wb,0,none⟩)] w λx w'=>x= .returned (.bool true)/\Kp (λ_=>False) w w':=by
 obtain⟨Ss,sv,iv,mv,es,k,E⟩:=hI;obtain⟨na,nc,rfl⟩:=bn E.inr;obtain⟨ma,mc,rfl⟩:=bn E.JW;have am:=E.eM;have x1:w.cell? _=some (.slice na es.length nc):=E.cell 1;have x2:w.cell? _=some (.slice none 0 0):=E.cell 2;have x3:w.cell? _=some (.slice ma es.length mc):=E.cell 3;have J:=af E;clear E
 go_enter func41,ntmps41
 go_wp2_with fail
 go_loopw [3] (λi wr=>∃j:Nat,i= .int .i64 j/\j<=es.length/\Kp (λ_=>False) w wr) (λi _=>es.length-(intOf i).toNat)
 case atStart=>exact⟨0,rfl,aG _,Kp.refl _ _⟩
 case round=>
  obtain⟨j,rfl,hj,I⟩:=hrel;have y1:=I.bX x1;have y2:=I.bX x2;have y3:=I.bX x3
  by_cases G:j<es.length
  ·have ad:(j:Int)<(es.length:Int):=by omega
   obtain⟨e,he⟩:∃e,es[j]? =some e:=⟨_,ar G⟩
   obtain⟨v,n,m⟩:=e;have Z:=J.out.nR _ (aM he);obtain⟨ev,en,D⟩:=bn Z.1;have ap:n<=2000:=Z.2.1;simp only at D;obtain⟨g,cp,hg,_⟩:=cR J.out.inr (by omega);simp only[aK,bS]at hg;obtain⟨rfl,-⟩:=hg;obtain⟨g',aj,O,_⟩:=cR J.out.JW (by omega);simp only[aK,bS]at O;obtain⟨rfl,-⟩:=O;have a1:w.cell? ⟨g,j,none⟩=some (.slice ev n en):=(bP J.out.inr j (by simpa using G)).trans (by rw[bw,he];exact gr some D);have a3:w.cell? ⟨g',j,none⟩=some (.int .i64 m):=(bP J.out.JW j (by simpa using G)).trans (by rw[bw,he];rfl);have HE:=af (show w.ownsRow B 3 1 (.slice ev n en) n (List.replicate n (.int .i64 m))by rw[<-D];exact Z.1);have b1:=I.bX a1;have Y:=af (ae x1 (ae x3 (ae a1 a3)));clear Z D he y2 x1 x3 a1 a3
   go_wp2_with fail
   go_loopw [4] (λi wq=>∃q:Nat,i= .int .i64 q/\q<=n/\Kp (λ_=>False) w wq) (λi _=>n-(intOf i).toNat)
   case atStart=>exact⟨0,rfl,aG _,I⟩
   case round=>
    obtain⟨q,rfl,hq,F⟩:=hrel;have z1:=F.bX Y.out.1;have z3:=F.bX Y.out.2.1;have u1:=F.bX Y.out.2.2.1;have u3:=F.bX Y.out.2.2.2
    by_cases X:q<n
    ·have aa:(q:Int)<(n:Int):=by omega
     obtain⟨gl,cl,U,_⟩:=cR HE.out (by omega);simp only[aK,bS]at U;obtain⟨rfl,-⟩:=U;have t1:=F.bX ((bP HE.out q (by simpa using X)).trans (by rw[List.getElem?_replicate,aq X]))
     go_upto_region 7 with(fail)
     go_quiet (fail)
     go_wp2
     go_roundw
     case rel=>exact⟨q+1,by go_num,by omega,F.drewN _⟩
     case measure=>simp[intOf];omega
    have aa:¬(q:Int)<(n:Int):=by omega
    go_wp2
    go_roundw
    case rel=>exact⟨j+1,by go_num,by omega,F⟩
    case measure=>simp[intOf];omega
  have ao:¬(j:Int)<(es.length:Int):=by omega
  go_wp2
  go_loopw [5] (λi wq=>i= .int .i64 0/\wq=wr) (λ_ _=>0)
  case atStart=>exact⟨rfl,rfl⟩
  case round=>
   obtain⟨rfl,rfl⟩:=hrel;go_wp2;go_ret;exact⟨rfl,I⟩
theorem Dg(v:Value)(D:List zZ)(hs:Qw w v D)(F:D.length<=1048576):
 Calls prog 15 #[v] w λx w'=>x= .returned (.bool true)/\Kp (λ_=>False) w w':=by
 have E:=af (I1 w v D 7 10 (λK W=>NB w.heap.size w.heap.size K K W) (NB w.heap.size w.heap.size D.length (2*D.length)) hs (by unfold maxLen;omega) (λ_ _ h=>h.up (cJ _) (cJ _))
  ⟨[],.slice none 0 0,.slice none 0 0,.slice none 0 0,[],0,an w _,bT _ _ _ _,λ_ _ h=>by simp at h,λ_ _ _ _ h=>by simp at h,λ_ _ h=>by simp at h,λ_ _ h=>by simp at h,aC _,bT _ _ _ _,bT _ _ _ _,by simp,Int.le_refl _,Int.le_refl _,aC _,aC _⟩
  (λK W o hk _ h1 h2 hW _=>zV W w.heap.size w.heap.size o K h1 h2 hW (by omega))
  (λW hW _=>Ni W w.heap.size w.heap.size D.length hW (by omega))
  (λW hW _=>(I4 W w.heap.size w.heap.size D.length (2*D.length) hW (by omega)).mono (λx W' ⟨hx,hk⟩=>⟨hx,hk.mono (λ_ _ x=>x.elim)⟩)))
 go_enter func15,ntmps15
 go_wp2_with fail
 refine hm E ?_;rintro x G ⟨rfl,K⟩;go_wp2;go_ret;exact⟨rfl,K⟩
