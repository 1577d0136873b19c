import Derived.Test.YtnlbchmfcebeeaaGreatTB4
import Derived.Deep.RegionWith
set_option maxHeartbeats 12800000
set_option maxRecDepth 100000
namespace Go.Proofs.YtnlbchmfcebeeaaGreat
open Go.Proofs.Tryz Ch
open Go.RowKit
def dh(w:World)(base:Nat)(v:Value)(xs:List Value):Prop:=
 (v= .slice none 0 0/\xs=[])\/
 ∃g E cap D,v= .slice (some ⟨g,E,none⟩) xs.length cap/\base<=g/\w.heap[g]? =some (.cells D 5 (0,0))/\xs.length<=cap/\E+cap<=D.size/\∀j u,xs[j]? =some u->D[E+j]? =some u
theorem Ai(g:Nat)(T:TypeId)(f:Nat×Nat):∀(F:List Value) (o:Nat) (w:World) (E:Array Value),w.heap[g]? =some (.cells E T f)->o+F.length<=E.size->
 ∃D,(w.setCells g o F).heap[g]? =some (.cells D T f)/\D.size=E.size/\(∀j,j<o->D[j]? =E[j]?)/\∀j u,F[j]? =some u->D[o+j]? =some u:=by
 intro F
 induction F with
 |nil=>intro o w E h _;exact⟨E,h,rfl,λ_ _=>rfl,by simp⟩
 |cons v F J=>?_
 intro o w E h hs;simp only[eh]at hs;obtain⟨D,G,I,O,U⟩:=J (o+1) (w.setCell ⟨g,o,none⟩ v) (E.setIfInBounds o v) (ak v h) (by simp;omega);refine⟨D,G,by simpa using I,λj hj=>?_,λj u hu=>?_⟩
 ·grind
 grind
theorem yn(g:Nat):∀(D:List Value) (o:Nat) (w:World),w.grownBy (w.setCells g o D) (some g):=by
 intro D
 induction D with
 |nil=>intro o w;exact⟨rfl,rfl,rfl,aC _,λ_ _ _=>rfl⟩
 |cons v D E=>?_
 intro o w;have h:=E (o+1) (w.setCell ⟨g,o,none⟩ v);refine⟨h.os,h.tape,h.output,by have:=h.size;rw[World.size_setCell]at this;exact this,λk hk hn=>?_⟩;rw[World.setCells,h.block k (by simpa using hk) hn];exact kq _ _ _ _ (λe=>hn (by simp[e]))
theorem dh.lt{w:World}{base:Nat}{v:Value}{xs:List Value}(h:dh w base v xs):∀k,v.ownBlock=some k->base<=k/\k<w.heap.size:=by
 intro k hk
 rcases h with⟨rfl,_⟩|⟨g,E,cap,D,rfl,hb,F,_⟩
 ·simp[Value.ownBlock]at hk
 simp[Value.ownBlock]at hk;grind
theorem dh.block{w:World}{base:Nat}{v:Value}{xs:List Value}(h:dh w base v xs){k:Nat}(hk:v.ownBlock=some k):∃D,w.heap[k]? =some (.cells D 5 (0,0)):=by
 rcases h with⟨rfl,_⟩|⟨g,E,cap,D,rfl,hb,F,_⟩
 ·simp[Value.ownBlock]at hk
 simp[Value.ownBlock]at hk;simp_all
theorem dh.ne{w:World}{base:Nat}{v:Value}{xs:List Value}(h:dh w base v xs){b:Nat}{c:Array Value}{T:TypeId}{f:Nat×Nat}(hb:w.heap[b]? =some (.cells c T f))(E:T≠5):v.ownBlock≠some b:=by
 intro hk;obtain⟨D,F⟩:=h.block hk;simp_all
theorem dh.az{S:Nat->Prop}{w w':World}{base:Nat}{v:Value}{xs:List Value}(h:dh w base v xs)(k:Kp S w w')(hs:∀i,v.ownBlock=some i->¬S i):dh w' base v xs:=by
 rcases h with h|⟨g,E,cap,D,rfl,hb,F,r⟩
 ·exact .inl h
 exact .inr ⟨g,E,cap,D,rfl,hb,k.at_ F (hs g rfl),r⟩
theorem dh.alloc{w:World}{base:Nat}{v:Value}{xs:List Value}(h:dh w base v xs)(o:Obj):dh (w.alloc o) base v xs:=
 h.az (S:=λ_=>False) ((Kp.refl _ _).alloc _) (λ_ _ x=>x)
theorem dh.ofRow{w:World}{base D:Nat}{v:Value}{n:Nat}{xs:List Value}(h:w.ownsRow D 5 1 v n xs)(hb:base<=D):dh w base v xs:=by
 rcases h.2 with⟨rfl,rfl⟩|⟨g,cap,E,rfl,O,G,J,_,F,U⟩
 ·exact .inl ⟨rfl,pR (by simpa using h.1)⟩
 have I:xs.length=n:=by simpa using h.1
 refine .inr ⟨g,0,cap,E,by rw[I],by omega,G,by omega,by omega,λj u hu=>?_⟩;grind
theorem dh.len{w:World}{base:Nat}{v:Value}{xs:List Value}(h:dh w base v xs):∃D cap,v= .slice D xs.length cap:=by
 rcases h with⟨rfl,rfl⟩|⟨g,F,cap,E,rfl,_⟩
 ·simp_all
 simp_all
theorem ve(w:World)(ty:TypeId){base:Nat}{v:Value}{xs:List Value}(h:dh w base v xs)(Z:Addr)(m c:Nat)(D:List Value)(hl:D.length=m)(hm:0<m)
 (G:∀j u,D[j]? =some u->w.cell? (Z.add j)=some u) (h1:∀u∈D,u.oneCell'=true) (hb:xs.length+m<=140737488355328) (O:base<=w.heap.size):
 ∃g E cap w',(Builtin.append_ #[47,47] ty #[v,.slice (some Z) m c]).run prog w= .ok (.slice (some ⟨g,E,none⟩) (xs.length+m) cap) w'/\
  dh w' base (.slice (some ⟨g,E,none⟩) (xs.length+m) cap) (xs++D)/\w.grownBy w' v.ownBlock/\(v.ownBlock=some g\/w.heap.size<=g):=by
 obtain⟨i0,hi,ap,I,aI⟩:=bY su
 have am:xs.length+m<=maxLen:=by unfold maxLen;omega
 rcases h with⟨rfl,rfl⟩|⟨g,E,cap,J,rfl,aO,hg,aS,iG,hx⟩
 ·obtain⟨v',w',Y,X,F,_⟩:=run_append_own (P:=prog) w w.heap.size 47 ty 5 i0 (.int .u8 0) 1 1 underlying47 hi ap I aI rfl (by decide) (.slice none 0 0) 0 [] (bT _ _ _ _) Z m c D (by simpa using hl) G h1 (by simpa using am) (by simpa using hb) (aC _)
  obtain⟨g,cap,rfl⟩:=ij X (by omega);refine⟨g,0,cap,w',by simpa using Y,?_,by simpa[Value.ownBlock]using F,.inr (X.lt g rfl).1⟩;grind[dh.ofRow]
 by_cases U:xs.length+m<=cap
 ·have Y:=run_append_room_cells (P:=prog) w 47 ty 5 i0 underlying47 hi g E xs.length cap Z m c D (by rw[I];omega) G h1 U
   (λj hj=>by rw[I,lh w g _ J _ _ hg];simp;omega) (λj hj=>by simp[World.frozen?,hg])
  rw[I,Nat.mul_one]at Y;obtain⟨aj,c1,c2,c3,c4⟩:=Ai g 5 (0,0) D (E+xs.length) w J hg (by omega);refine⟨g,E,cap,_,Y,.inr ⟨g,E,cap,aj,by simp[hl],aO,c1,by simp[hl];omega,by omega,λj u hu=>?_⟩,yn g _ _ _,.inl rfl⟩
  grind
 obtain⟨v',w',Y,X,F⟩:=run_append_arg_grows (P:=prog) w 47 ty 5 i0 (.int .u8 0) 1 1 underlying47 hi ap I aI rfl (by decide) ⟨g,E,none⟩ xs.length cap xs (by simp)
  (λj u hu=>by
   have ao:(⟨g,E,none⟩:Addr).add j=⟨g,E+j,none⟩:=by unfold Addr.add;split<;>simp_all
   rw[ao,lh w g _ J _ _ hg];exact hx j u hu) Z m c D (by simpa using hl) G (by omega) am (by omega)
 obtain⟨g',aa,rfl⟩:=ij X (by omega);exact⟨g',0,aa,w',Y,dh.ofRow X O,⟨F.os,F.tape,F.output,F.size,λk hk _=>F.block k hk (by simp)⟩,.inr (X.lt g' rfl).1⟩
theorem fZ{I:Array Oper}{rest:List Oper}{o:Oper}{a:Act}{w:World}{Q:Exit->Act->World->Prop}(O:o.guard=none)(s x:Operand)
 (U:o.op= .call {callee:=.builtin .append,args:=#[s,x],argTypes:=#[47,47]})
 {base:Nat} {v:Value} {xs:List Value} (hs:a.eval s=v) (h:dh w base v xs) (J:Addr) (m c:Nat) (D:List Value) (hx:a.eval x= .slice (some J) m c) (Z:D.length=m) (hm:0<m)
 (G:∀j u,D[j]? =some u->w.cell? (J.add j)=some u) (X:∀u∈D,u.oneCell'=true) (hb:xs.length+m<=140737488355328) (F:base<=w.heap.size)
 (Y:∀g E cap w',dh w' base (.slice (some ⟨g,E,none⟩) (xs.length+m) cap) (xs++D)->w.grownBy w' v.ownBlock->(v.ownBlock=some g\/w.heap.size<=g)->
  wpList prog I Q rest (a.put o.dst (.slice (some ⟨g,E,none⟩) (xs.length+m) cap)) w'):wpList prog I Q (o::rest) a w:=
 wpList_plain O λK hK'=>by
  obtain⟨g,E,cap,w',hr,r1,r2,r3⟩:=ve w o.type h J m c D Z hm G X hb F;unfold Oper.wp execOp;simp only[U,resolve,invoke,builtin,jD,k_,jE,List.map_toArray,List.map_cons,List.map_nil,hs,hx,hr];exact hK' _ _ (Y g E cap w' r1 r2 r3)
theorem Aj{J:Array Oper}{o:Oper}{a:Act}{w:World}{K:Act->World->Prop}{Q:Exit->Act->World->Prop}{E:Prop}(U:o.guard=none)(s x:Operand)
 (X:o.op= .call {callee:=.builtin .append,args:=#[s,x],argTypes:=#[47,47]})
 {base:Nat} {v:Value} {xs:List Value} (hs:a.eval s=v) (h:dh w base v xs) (O:Addr) (m c:Nat) (D:List Value) (hx:a.eval x= .slice (some O) m c) (hl:D.length=m) (hm:0<m)
 (I:∀j u,D[j]? =some u->w.cell? (O.add j)=some u) (Y:∀u∈D,u.oneCell'=true) (hb:xs.length+m<=140737488355328) (G:base<=w.heap.size)
 (Z:∀g F cap w',dh w' base (.slice (some ⟨g,F,none⟩) (xs.length+m) cap) (xs++D)->w.grownBy w' v.ownBlock->(v.ownBlock=some g\/w.heap.size<=g)->
  K (a.put o.dst (.slice (some ⟨g,F,none⟩) (xs.length+m) cap)) w'):if Region.wanted o (yielded J a.tmps)=true then Oper.wp prog o a w K Q else E:=by
 have hw:Region.wanted o (yielded J a.tmps)=true:=by simp[Region.wanted,U]
 rw[aq hw];obtain⟨g,F,cap,w',hr,r1,r2,r3⟩:=ve w o.type h O m c D hl hm I Y hb G;unfold Oper.wp;simp[execOp,X,resolve,invoke,builtin,hs,hx,hr,Result.andThen];exact Z g F cap w' r1 r2 r3
theorem lQ{w:World}{base:Nat}{v:Value}{l:List Int}(h:dh w base v (aD l)):
 (convert 47 9 v).run prog w= .ok (.string (strOfNums l)) w:=by
 rcases h with⟨rfl,F⟩|⟨g,E,cap,D,rfl,hb,G,J,hs,O⟩
 ·have:l=[]:=by cases l with|nil=>rfl|cons a l=>simp[aD]at F
  subst this;exact run_convert_bytes_nil w 47 5 underlying47 underlying5 0 0 9 underlying9
 have I:(aD l).length=l.length:=by simp[aD]
 rw[I];refine ld w 47 5 underlying47 underlying5 g E l.length cap l rfl ?_ 9 underlying9;intro i hi;rw[lh w g _ D _ _ G];grind[aD]
theorem fy(w:World)(x:Value)(T:TypeId):∀j u,[x][j]? =some u->(w.alloc (.cells #[x] T)).cell? ((⟨w.heap.size,0,none⟩:Addr).add j)=some u:=by
 intro j u D
 match j,D with
 |0,D=>simp at D;subst D;simp[Addr.add]
theorem eN(l:List Int)(a:Int):aD (l++[a])=aD l++[.int .u8 a]:=by simp[aD]
namespace Ch
def gD(ss:List St)(k:Nat):Int:=match ss[k]? with|some s=>s.name|none=>0
def iU(ss:List St)(s:Sd)(k:Nat):List Int:=((List.range k).filter λ(j:Nat)=>has s.act (j:Int)).map (gD ss)
def jR(ss:List St)(s:Sd)(k:Nat):List Int:=((List.range k).filter (gY ss)).map (bN s)
theorem A0(ss:List St)(s:Sd)(k:Nat):iU ss s (k+1)=iU ss s k++if has s.act (k:Int)then[gD ss k]else[]:=by
 unfold iU;rw[l0,ic,nG];grind
theorem Kq(ss:List St)(s:Sd)(k:Nat):jR ss s (k+1)=jR ss s k++if gY ss k then[bN s k]else[]:=by
 unfold jR;rw[l0,ic,nG];grind
theorem vf(ss:List St)(s:Sd)(k:Nat):(iU ss s k).length<=k:=by
 grind[has,iU]
theorem yo(ss:List St)(s:Sd)(k:Nat):(jR ss s k).length<=k:=by
 grind[gY,jR]
def jS(ss:List St)(s:Sd):ByteArray:=strOfNums (iU ss s (min ss.length 16))
def jq(ss:List St)(s:Sd):ByteArray:=strOfNums (jR ss s (min ss.length 16))
end Ch
def kQ(v u:Value):Prop:=∀k,v.ownBlock=some k->u.ownBlock≠some k
def ya(w:World)(b:Nat)(D E F G I J:Value):World:=
 (((((w.setCell ⟨b,0,none⟩ D).setCell ⟨b,1,none⟩ E).setCell ⟨b,2,none⟩ F).setCell ⟨b,3,none⟩ G).setCell ⟨b,4,none⟩ I).setCell ⟨b,5,none⟩ J
theorem A2{w:World}{b:Nat}{c0 c1 c2 c3 c4 c5:Value}{T:TypeId}(h:w.heap[b]? =some (.cells #[c0,c1,c2,c3,c4,c5] T (0,0)))(D E F G I J:Value):
 (ya w b D E F G I J).heap[b]? =some (.cells #[D,E,F,G,I,J] T (0,0)):=by
 unfold ya;rw[ak _ (ak _ (ak _ (ak _ (ak _ (ak _ h)))))];rfl
theorem Jm(w:World)(b:Nat)(D E F G I J:Value):Kp (λk=>k=b) w (ya w b D E F G I J):=
 (((((((Kp.refl _ _).setCell (by intro _;rfl) _).setCell (by intro _;rfl) _).setCell (by intro _;rfl) _).setCell (by intro _;rfl) _).setCell (by intro _;rfl) _).setCell (by intro _;rfl) _)
section
variable (ob oo:Nat) (w:World) (ss:List St) (b o:Nat) (pre:List Value) (s:Sd) (post:List Value) (T:TypeId)
theorem Ak(hS:tV w ob oo ss)(hl:ss.length<=1000)(h:ey w b pre s post T)(hw:s.Wf)(ho:pre.length=o):
 Calls prog 44 #[.pointer (some ⟨b,o,none⟩),.pointer (some ⟨ob,oo,none⟩)] w λx w'=>
  x= .returned (.agg #[.string (jS ss s),.string (jq ss s),.string s.tm,.int .i64 s.x,.int .i64 s.y,.int .i64 s.z])/\Kp (λ_=>False) w w':=by
 subst ho;have ad:tV (w.alloc (.cells #[.string ⟨#[]⟩,.string ⟨#[]⟩,.string ⟨#[]⟩,.int .i64 0,.int .i64 0,.int .i64 0] 26)) _ _ _:=hS.alloc _;have ap:(w.alloc (.cells #[.string ⟨#[]⟩,.string ⟨#[]⟩,.string ⟨#[]⟩,.int .i64 0,.int .i64 0,.int .i64 0] 26)).heap[w.heap.size]? =_:=an _ _;have K1:Kp (λ_=>False) w (w.alloc (.cells #[.string ⟨#[]⟩,.string ⟨#[]⟩,.string ⟨#[]⟩,.int .i64 0,.int .i64 0,.int .i64 0] 26)):=(Kp.refl _ _).alloc _;have h1:=h.az K1 (λx=>x);clear hS h
 go_enter func44,ntmps44
 go_wp2_with fail
 generalize w.alloc (.cells #[.string ⟨#[]⟩,.string ⟨#[]⟩,.string ⟨#[]⟩,.int .i64 0,.int .i64 0,.int .i64 0] 26)=w1 at ad ap K1 h1⊢;have ba:=aR ap
 go_loopw [5,6,7] (λav pv i wr=>∃k:Nat,i= .int .i64 k/\k<=16/\k<=ss.length/\dh wr w1.heap.size av (aD (iU ss s k))/\dh wr w1.heap.size pv (aD (jR ss s k))/\kQ av pv/\Kp (λ_=>False) w1 wr) (λ_ _ i _=>16-(intOf i).toNat)
 case atStart=>exact⟨0,rfl,aG _,aG _,.inl ⟨rfl,by simp[iU,aD]⟩,.inl ⟨rfl,by simp[jR,aD]⟩,by intro k hk;simp[Value.ownBlock]at hk,Kp.refl _ _⟩
 case round=>
  obtain⟨k,rfl,QU,bi,qa,qp,I,J⟩:=hrel;have Y:=ad.az J (λx=>x) (λ_ _ _ x=>x);have Z:=J.at_ ap (λx=>x);have hd:=h1.az J (λx=>x);have la:=vf ss s k;have lp:=yo ss s k
  by_cases am:k<ss.length/\k<16
  ·obtain⟨aS,aO⟩:=am
   obtain⟨st,hs⟩:∃s,ss[k]? =some s:=⟨_,ar aS⟩
   have a9:(k:Int)<(ss.length:Int):=by omega
   have Ag:(k:Int)<16:=by omega
   have sa:=A0 ss s k;have sp:=Kq ss s k
   have aa:gD ss k=st.name:=by simp[gD,hs]
   have O:gY ss k=(st.kind==5):=by simp[gY,hs]
   obtain⟨g,cap,c2,a0,a1,a2,a3⟩:=Y.at_ hs;have E1:=af (lW wr b pre.length pre s.act (cX s++post) T k hd hw.1 rfl)
   cases qh:Ch.has s.act (k:Int)with
   |true=>
    rw[qh]at E1;have HA:=af (show iU ss s (k+1)=iU ss s k++[st.name]by rw[sa,qh];simp[aa])
    cases qk:st.kind==5 with
    |true=>
     have HP:=af (show jR ss s (k+1)=jR ss s k++[bN s k]by rw[sp,O,qk];simp);clear sa sp aa O
     go_wp2_with fail
     refine hm E1 ?_;rintro xx w2 ⟨rfl,e2⟩;rw[e2];clear e2 E1
     go_wp2_with (at_builtin;refine fZ rfl (.tmp 26) (.tmp 35) rfl rfl (qa.alloc _) ⟨wr.heap.size,0,none⟩ 1 1 [.int .u8 st.name] rfl rfl (by decide) (by exact fy _ _ _) (by intro u hu;simp at hu;subst hu;rfl) (by simp[aD];omega) (by have:=J.size;simp;omega) ?_)
     intro ga oa ca w3 Wg g3 D;have X:=((Kp.refl _ _).alloc _).grown g3 (λi hi _=>hi);have Tv:=J.trans' X (λi hi x=>by have:=(qa.lt i x).1;omega);have YZ:=qp.az X (λi hi x=>I i x hi)
     have QX:kQ (.slice (some ⟨ga,oa,none⟩) ((aD (iU ss s k)).length+1) ca) u6:=by
      intro i hi x;simp[Value.ownBlock]at hi;subst hi
      rcases D with D|D
      ·exact I _ D x
      have:=(qp.lt _ x).2;try simp at D
      omega
     have NT:=ad.az Tv (λx=>x) (λ_ _ _ x=>x);have aj:=h1.az Tv (λx=>x);rw[<-eN]at Wg;obtain⟨g',aI,a8,a4,a5,a6,a7⟩:=NT.at_ hs;clear X g3 D qa qp I J Y hd c2 a0 a1 a2 a3 Z;have Z7:w3.cell? _=some (.int .u8 (bN s k)):=aj.cd hw aO;clear aj NT
     go_wp2_with (at_builtin;refine fZ rfl (.tmp 46) (.tmp 53) rfl rfl (YZ.alloc _) ⟨w3.heap.size,0,none⟩ 1 1 [.int .u8 (bN s k)] rfl rfl (by decide) (by exact fy _ _ _) (by intro u hu;simp at hu;subst hu;rfl) (by simp[aD];omega) (by have:=Tv.size;simp;omega) ?_)
     intro gp op cp w4 WS g4 E;have X:=((Kp.refl _ _).alloc _).grown g4 (λi hi _=>hi);have uS:=Tv.trans' X (λi hi x=>by have:=(YZ.lt i x).1;omega);have Z8:=Wg.az X (λi hi x=>QX i hi x)
     have UE:kQ (.slice (some ⟨ga,oa,none⟩) ((aD (iU ss s k)).length+1) ca) (.slice (some ⟨gp,op,none⟩) ((aD (jR ss s k)).length+1) cp):=by
      intro i hi x;simp[Value.ownBlock]at x;subst x
      rcases E with E|E
      ·exact QX _ hi E
      have:=(Wg.lt _ hi).2;try simp at E
      omega
     rw[<-eN]at WS;clear X g4 E;go_wp2
     go_roundw
     case rel=>exact⟨k+1,by go_num,by omega,by omega,by rw[HA.out];simpa[aD]using Z8,by rw[HP.out];simpa[aD]using WS,UE,uS⟩
     case measure=>simp[intOf];omega
    |false=>?_
    have HP:=af (show jR ss s (k+1)=jR ss s k by rw[sp,O,qk];simp);clear sa sp aa O
    go_wp2_with fail
    refine hm E1 ?_;rintro xx w2 ⟨rfl,e2⟩;rw[e2];clear e2 E1
    go_wp2_with (at_builtin;refine fZ rfl (.tmp 26) (.tmp 35) rfl rfl (qa.alloc _) ⟨wr.heap.size,0,none⟩ 1 1 [.int .u8 st.name] rfl rfl (by decide) (by exact fy _ _ _) (by intro u hu;simp at hu;subst hu;rfl) (by simp[aD];omega) (by have:=J.size;simp;omega) ?_)
    intro ga oa ca w3 Wg g3 D;have X:=((Kp.refl _ _).alloc _).grown g3 (λi hi _=>hi);have Tv:=J.trans' X (λi hi x=>by have:=(qa.lt i x).1;omega);have YZ:=qp.az X (λi hi x=>I i x hi)
    have QX:kQ (.slice (some ⟨ga,oa,none⟩) ((aD (iU ss s k)).length+1) ca) u6:=by
     intro i hi x;simp[Value.ownBlock]at hi;subst hi
     rcases D with D|D
     ·exact I _ D x
     have:=(qp.lt _ x).2;try simp at D
     omega
    have NT:=ad.az Tv (λx=>x) (λ_ _ _ x=>x);have aj:=h1.az Tv (λx=>x);rw[<-eN]at Wg;obtain⟨g',aI,a8,a4,a5,a6,a7⟩:=NT.at_ hs;clear X g3 D qa qp I J Y hd c2 a0 a1 a2 a3 Z;clear aj NT;go_wp2
    go_roundw
    case rel=>exact⟨k+1,by go_num,by omega,by omega,by rw[HA.out];simpa[aD]using Wg,by rw[HP.out];exact YZ,QX,Tv⟩
    case measure=>simp[intOf];omega
   |false=>?_
   rw[qh]at E1;have HA:=af (show iU ss s (k+1)=iU ss s k by rw[sa,qh];simp)
   cases qk:st.kind==5 with
   |true=>
    have HP:=af (show jR ss s (k+1)=jR ss s k++[bN s k]by rw[sp,O,qk];simp);clear sa sp aa O
    go_wp2_with fail
    refine hm E1 ?_;rintro xx w2 ⟨rfl,e2⟩;rw[e2];clear e2 E1;have Z7:wr.cell? _=some (.int .u8 (bN s k)):=hd.cd hw aO;clear hd Y
    go_wp2_with (at_builtin;refine fZ rfl (.tmp 46) (.tmp 53) rfl rfl (qp.alloc _) ⟨wr.heap.size,0,none⟩ 1 1 [.int .u8 (bN s k)] rfl rfl (by decide) (by exact fy _ _ _) (by intro u hu;simp at hu;subst hu;rfl) (by simp[aD];omega) (by have:=J.size;simp;omega) ?_)
    intro gp op cp w4 WS g4 E;have X:=((Kp.refl _ _).alloc _).grown g4 (λi hi _=>hi);have uS:=J.trans' X (λi hi x=>by have:=(qp.lt i x).1;omega);have Z8:=qa.az X (λi hi x=>I i hi x)
    have UE:kQ u5 (.slice (some ⟨gp,op,none⟩) ((aD (jR ss s k)).length+1) cp):=by
     intro i hi x;simp[Value.ownBlock]at x;subst x
     rcases E with E|E
     ·exact I _ hi E
     have:=(qa.lt _ hi).2;try simp at E
     omega
    rw[<-eN]at WS;clear X g4 E;go_wp2
    go_roundw
    case rel=>exact⟨k+1,by go_num,by omega,by omega,by rw[HA.out];exact Z8,by rw[HP.out];simpa[aD]using WS,UE,uS⟩
    case measure=>simp[intOf];omega
   |false=>?_
   have HP:=af (show jR ss s (k+1)=jR ss s k by rw[sp,O,qk];simp);clear sa sp aa O
   go_wp2_with fail
   refine hm E1 ?_;rintro xx w2 ⟨rfl,e2⟩;rw[e2];clear e2 E1;clear hd Y;go_wp2
   go_roundw
   case rel=>exact⟨k+1,by go_num,by omega,by omega,by rw[HA.out];exact qa,by rw[HP.out];exact qp,I,J⟩
   case measure=>simp[intOf];omega
  have F:k=min ss.length 16:=by omega
  have bb:=lQ qa;have WT:=lQ qp;have bc:=lQ (w:=wr.drew) (base:=w1.heap.size) (by exact qa);have be:=lQ (w:=wr.drew) (base:=w1.heap.size) (by exact qp);have t1:=hd.tm hw;have t2:=hd.cx hw;have t3:=hd.cy hw;have t4:=hd.cz hw;obtain⟨ao,cap,c2⟩:=Y.len
  have r0:wr.cell? ⟨w.heap.size,0,none⟩=some (.string ⟨#[]⟩):=by simp[World.cell?,Z]
  have r1:wr.cell? ⟨w.heap.size,1,none⟩=some (.string ⟨#[]⟩):=by simp[World.cell?,Z]
  have r2:wr.cell? ⟨w.heap.size,2,none⟩=some (.string ⟨#[]⟩):=by simp[World.cell?,Z]
  have r3:wr.cell? ⟨w.heap.size,3,none⟩=some (.int .i64 0):=by simp[World.cell?,Z]
  have r4:wr.cell? ⟨w.heap.size,4,none⟩=some (.int .i64 0):=by simp[World.cell?,Z]
  have r5:wr.cell? ⟨w.heap.size,5,none⟩=some (.int .i64 0):=by simp[World.cell?,Z]
  have fr:∀i,wr.frozen? ⟨w.heap.size,i,none⟩=false:=by intro i;simp[World.frozen?,Z]
  have HX:=af (ae Z (ae (K1.trans J) F));clear qa qp I J Y hd Z F
  by_cases aS:k<ss.length
  ·have x1:(k:Int)<(ss.length:Int):=by omega
   have x2:decide ((k:Int)<16)=false:=by simp;omega
   clear am
   go_upto_region 9 with(fail)
   go_region
   go_wp2;obtain⟨Z,J,F⟩:=HX.out
   have eA:jS ss s=strOfNums (iU ss s k):=by rw[F];rfl
   have eP:jq ss s=strOfNums (jR ss s k):=by rw[F];rfl
   rw[eA,eP];have U:=A2 Z (.string (strOfNums (iU ss s k))) (.string (strOfNums (jR ss s k))) (.string s.tm) (.int .i64 s.x) (.int .i64 s.y) (.int .i64 s.z);have KX:=Jm wr w.heap.size (.string (strOfNums (iU ss s k))) (.string (strOfNums (jR ss s k))) (.string s.tm) (.int .i64 s.x) (.int .i64 s.y) (.int .i64 s.z)
   change bodyPost _ _ _ _ _ (ya wr w.heap.size (.string (strOfNums (iU ss s k))) (.string (strOfNums (jR ss s k))) (.string s.tm) (.int .i64 s.x) (.int .i64 s.y) (.int .i64 s.z)).drew
   generalize ya wr w.heap.size (.string (strOfNums (iU ss s k))) (.string (strOfNums (jR ss s k))) (.string s.tm) (.int .i64 s.x) (.int .i64 s.y) (.int .i64 s.z)=G at U KX⊢
   have z0:G.drew.cell? ⟨w.heap.size,0,none⟩=some (.string (strOfNums (iU ss s k))):=show G.cell? _=_ by simp[World.cell?,U]
   have z1:G.drew.cell? ⟨w.heap.size,1,none⟩=some (.string (strOfNums (jR ss s k))):=show G.cell? _=_ by simp[World.cell?,U]
   have z2:G.drew.cell? ⟨w.heap.size,2,none⟩=some (.string s.tm):=show G.cell? _=_ by simp[World.cell?,U]
   have z3:G.drew.cell? ⟨w.heap.size,3,none⟩=some (.int .i64 s.x):=show G.cell? _=_ by simp[World.cell?,U]
   have z4:G.drew.cell? ⟨w.heap.size,4,none⟩=some (.int .i64 s.y):=show G.cell? _=_ by simp[World.cell?,U]
   have z5:G.drew.cell? ⟨w.heap.size,5,none⟩=some (.int .i64 s.z):=show G.cell? _=_ by simp[World.cell?,U]
   refine bg (v:=.agg #[.string (strOfNums (iU ss s k)),.string (strOfNums (jR ss s k)),.string s.tm,.int .i64 s.x,.int .i64 s.y,.int .i64 s.z]) (by simp[results,Tryz.results44,go_sem,z0,z1,z2,z3,z4,z5]) rfl ?_;exact⟨rfl,(J.trans' KX (λi hi x=>by omega)).drew⟩
  have x1:decide ((k:Int)<(ss.length:Int))=false:=by simp;omega
  clear am
  go_upto_region 9 with(fail)
  go_region
  go_wp2;obtain⟨Z,J,F⟩:=HX.out
  have eA:jS ss s=strOfNums (iU ss s k):=by rw[F];rfl
  have eP:jq ss s=strOfNums (jR ss s k):=by rw[F];rfl
  rw[eA,eP];have U:=A2 Z (.string (strOfNums (iU ss s k))) (.string (strOfNums (jR ss s k))) (.string s.tm) (.int .i64 s.x) (.int .i64 s.y) (.int .i64 s.z);have KX:=Jm wr w.heap.size (.string (strOfNums (iU ss s k))) (.string (strOfNums (jR ss s k))) (.string s.tm) (.int .i64 s.x) (.int .i64 s.y) (.int .i64 s.z)
  change bodyPost _ _ _ _ _ (ya wr w.heap.size (.string (strOfNums (iU ss s k))) (.string (strOfNums (jR ss s k))) (.string s.tm) (.int .i64 s.x) (.int .i64 s.y) (.int .i64 s.z)).drew
  generalize ya wr w.heap.size (.string (strOfNums (iU ss s k))) (.string (strOfNums (jR ss s k))) (.string s.tm) (.int .i64 s.x) (.int .i64 s.y) (.int .i64 s.z)=G at U KX⊢
  have z0:G.drew.cell? ⟨w.heap.size,0,none⟩=some (.string (strOfNums (iU ss s k))):=show G.cell? _=_ by simp[World.cell?,U]
  have z1:G.drew.cell? ⟨w.heap.size,1,none⟩=some (.string (strOfNums (jR ss s k))):=show G.cell? _=_ by simp[World.cell?,U]
  have z2:G.drew.cell? ⟨w.heap.size,2,none⟩=some (.string s.tm):=show G.cell? _=_ by simp[World.cell?,U]
  have z3:G.drew.cell? ⟨w.heap.size,3,none⟩=some (.int .i64 s.x):=show G.cell? _=_ by simp[World.cell?,U]
  have z4:G.drew.cell? ⟨w.heap.size,4,none⟩=some (.int .i64 s.y):=show G.cell? _=_ by simp[World.cell?,U]
  have z5:G.drew.cell? ⟨w.heap.size,5,none⟩=some (.int .i64 s.z):=show G.cell? _=_ by simp[World.cell?,U]
  refine bg (v:=.agg #[.string (strOfNums (iU ss s k)),.string (strOfNums (jR ss s k)),.string s.tm,.int .i64 s.x,.int .i64 s.y,.int .i64 s.z]) (by simp[results,Tryz.results44,go_sem,z0,z1,z2,z3,z4,z5]) rfl ?_;exact⟨rfl,(J.trans' KX (λi hi x=>by omega)).drew⟩
end
namespace Ch
def Al(ss:List St)(act left:List Bool)(k:Nat):Bool:=gY ss k&&has left (aN ss k)&&(rF ss act (aN ss k)!= -2)
def pD(ss:List St)(act left:List Bool):Nat->Nat->List Int->List Int
 |0,_,p=>p
 |f+1,k,p=>pD ss act left f (k+1) (if Al ss act left k then p.set k (gD ss (rF ss act (aN ss k)).toNat)else p)
def rem(ss:List St)(s:Sd)(left:List Bool):Sd:={s with cd:=pD ss s.act left (min ss.length 16) 0 s.cd}
theorem vg(ss:List St)(act left:List Bool):∀(f k:Nat) (p:List Int),(pD ss act left f k p).length=p.length:=by
 intro f
 induction f with
 |zero=>intro k p;rfl
 |succ f D=>grind[pD]
theorem UF{ss:List St}{s:Sd}(left:List Bool)(h:s.Wf):(rem ss s left).Wf:=⟨h.1,by simp[rem,vg,h.2]⟩
theorem Kr(ss:List St)(l:List Bool)(parent:Int):∀(f k:Nat),lr ss l parent f k≠ -2->∃j:Nat,lr ss l parent f k=j/\j<k+f:=by
 intro f
 induction f with
 |zero=>intro k h;exact absurd rfl h
 |succ f D=>?_
 grind[lr]
theorem NU{ss:List St}{l:List Bool}{parent:Int}(h:(rF ss l parent != -2)=true):∃j:Nat,rF ss l parent=j/\j<ss.length:=by
 grind[Kr,rF]
end Ch
section
variable (ob oo:Nat) (w:World) (ss:List St) (b o:Nat) (pre:List Value) (s:Sd) (post:List Value) (T:TypeId) (lb lo:Nat) (pre':List Value) (l:List Bool) (post':List Value) (T':TypeId)
theorem Cf(hS:tV w ob oo ss)(hl:ss.length<=1000)(h:ey w b pre s post T)(hw:s.Wf)(ho:pre.length=o)(hL:kP w lb pre' l post' T')(am:l.length=16)(ap:pre'.length=lo)(aO:lb≠b)(sr:ob≠b)(hT:T≠155):
 Calls prog 132 #[.pointer (some ⟨b,o,none⟩),.pointer (some ⟨ob,oo,none⟩),.pointer (some ⟨lb,lo,none⟩)] w λx w'=>x= .returned (.tuple #[])/\ey w' b pre (Ch.rem ss s l) post T/\Kp (λk=>k=b) w w':=by
 subst ho
 have aI:∀i ad,w.heap[i]? =some (.cells ad 155 (0,0))->i≠b:=by
  intro i ad hi e;subst e;unfold ey kP at h;rw[h]at hi;simp at hi;exact hT hi.2
 go_enter func132,ntmps132
 go_wp2_with fail
 go_loopw [6] (λi wr=>∃(k:Nat) (p:List Int),i= .int .i64 k/\k<=16/\k<=ss.length/\p.length=16/\Hid (pD ss s.act l (min ss.length 16) 0 s.cd=pD ss s.act l (min ss.length 16-k) k p)/\ey wr b pre {s with cd:=p} post T/\Kp (λk=>k=b) w wr) (λi _=>16-(intOf i).toNat)
 case atStart=>exact⟨0,s.cd,rfl,aG _,aG _,hw.2,af rfl,h,Kp.refl _ _⟩
 case round=>
  obtain⟨k,p,rfl,QU,a9,hp,I,G,J⟩:=hrel
  have aa:Sd.Wf {s with cd:=p}:=⟨hw.1,hp⟩
  have D:=hS.az J sr aI;have NX:=hL.az J aO
  by_cases Y:k<ss.length/\k<16
  ·obtain⟨aj,Ag⟩:=Y
   obtain⟨st,hs⟩:∃s,ss[k]? =some s:=⟨_,ar aj⟩
   have a5:(k:Int)<(ss.length:Int):=by omega
   have a6:(k:Int)<16:=by omega
   have ef:min ss.length 16-k=(min ss.length 16-(k+1))+1:=by omega
   have F_:aN ss k=st.parent:=by simp[aN,gR,hs]
   have E:gY ss k=(st.kind==5):=by simp[gY,hs]
   have O:Al ss s.act l k=((st.kind==5)&&Ch.has l st.parent&&(rF ss s.act st.parent != -2)):=by simp[Al,F_,E]
   obtain⟨g,cap,c2,a0,a1,a2,a3⟩:=D.at_ hs;have E1:=af (lW wr lb lo pre' l post' T' st.parent NX am ap);have E2:=af (xA ob oo wr ss b pre.length pre post T {s with cd:=p} st.parent D hl G aa rfl)
   have step:Al ss s.act l k=false->pD ss s.act l (min ss.length 16) 0 s.cd=pD ss s.act l (min ss.length 16-(k+1)) (k+1) p:=λq=>by
    rw[I.out,ef];simp only[pD];rw[q];rfl
   cases q1:st.kind==5 with
   |false=>
    have F:=af (step (by rw[O,q1];rfl))
    have aS:(st.kind !=5)=true:=by simp[bne,q1]
    clear step O F_ E ef I hs hS D h hL NX E1 E2;go_wp2
    go_roundw
    case rel=>exact⟨k+1,p,by go_num,by omega,by omega,hp,F,G,J⟩
    case measure=>simp[intOf];omega
   |true=>?_
   have aS:(st.kind !=5)=false:=by simp[bne,q1]
   cases q2:Ch.has l st.parent with
   |false=>
    rw[q2]at E1;have F:=af (step (by rw[O,q1,q2];rfl));clear step O F_ E ef I hs hS D h hL NX E2
    go_wp2_with fail
    refine hm E1 ?_;rintro x w1 ⟨rfl,rfl⟩;go_wp2
    go_roundw
    case rel=>exact⟨k+1,p,by go_num,by omega,by omega,hp,F,G,J⟩
    case measure=>simp[intOf];omega
   |true=>?_
   rw[q2]at E1
   cases q3:rF ss s.act st.parent != -2 with
   |false=>
    have F:=af (step (by rw[O,q1,q2,q3];rfl));clear step O F_ E ef I hs hS D h hL NX
    go_wp2_with fail
    refine hm E1 ?_;rintro x w1 ⟨rfl,rfl⟩
    go_wp2_with fail
    refine hm E2 ?_;rintro x w1 ⟨rfl,rfl⟩;go_wp2
    go_roundw
    case rel=>exact⟨k+1,p,by go_num,by omega,by omega,hp,F,G,J⟩
    case measure=>simp[intOf];omega
   |true=>?_
   obtain⟨j,ej,hj⟩:=NU q3
   obtain⟨sj,Z⟩:∃s,ss[j]? =some s:=⟨_,ar hj⟩
   have a8:(j:Int)<(ss.length:Int):=by omega
   have F:=af (show pD ss s.act l (min ss.length 16) 0 s.cd=pD ss s.act l (min ss.length 16-(k+1)) (k+1) (p.set k sj.name)by
    rw[I.out,ef];simp only[pD];rw[aq (by rw[O,q1,q2,q3];rfl),F_,ej];simp[gD,Z])
   have U:=G.QR aa Ag sj.name;obtain⟨g',a4,X,b0,b1,b2,b3⟩:=D.at_ Z;have fr:=G.free (pre.length+16+k);have cp:=G.cd aa Ag;rw[c2]at X;simp only[bq,aK,bS]at X;have eg:=X.1;simp only[dH,dx]at eg;subst eg;have HS:=af U
   have ba:((j:Int)!= -2)=true:=by rw[ej]at q3;exact q3
   simp only[ej]at E2;have a7:=AZ wr b (pre.length+16) k Ag;clear step O F_ E ef I hs hS D h hL NX U Z G q3
   go_wp2_with fail
   refine hm E1 ?_;rintro x w1 ⟨rfl,rfl⟩
   go_wp2_with fail
   refine hm E2 ?_;rintro x w1 ⟨rfl,rfl⟩
   go_wp2_with fail
   go_region
   go_wp2
   go_roundw
   case rel=>exact⟨k+1,p.set k sj.name,by go_num,by omega,by omega,by simpa using hp,F,HS.out,(show Kp (λk=>k=b) w (w1.setCell ⟨b,pre.length+16+k,none⟩ (.int .u8 sj.name))from J.setCell (by intro _;rfl) _).drew⟩
   case measure=>simp[intOf];omega
  have F:=af (I.out.trans (show _=p by rw[show min ss.length 16-k=0 by omega];rfl));obtain⟨ao,cap,c2⟩:=D.len;clear I hS h hL NX D
  by_cases aj:k<ss.length
  ·have x1:(k:Int)<(ss.length:Int):=by omega
   have x2:decide ((k:Int)<16)=false:=by simp;omega
   clear Y;go_wp2
   go_end0
   exact⟨rfl,by unfold Ch.rem;rw[F.out];exact G,J⟩
  have x1:decide ((k:Int)<(ss.length:Int))=false:=by simp;omega
  clear Y;go_wp2
  go_end0
  exact⟨rfl,by unfold Ch.rem;rw[F.out];exact G,J⟩
end
theorem b9{P:Program}{f:FuncId}{args:Array Value}{w:World}{Q R:Ending->World->Prop}(h:Hid (Calls P f args w Q))(k:∀e w',Q e w'->R e w'):Calls P f args w R:=bu h k
namespace Ch
def Up(ss:List St):Prop:=∀(k:Nat) (s:St),ss[k]? =some s-> -1<=s.parent/\s.parent<(k:Int)
theorem gE{ss:List St}(h:Up ss)(i:Int): -1<=aN ss i:=by
 unfold aN
 cases q:rQ ss i with
 |none=>simp_all
 |some s=>obtain⟨k,rfl,hs,_⟩:=j1 q;exact(h k s hs).1
theorem iy{ss:List St}(h:Up ss){i:Int}(hi: -1<i):aN ss i<i:=by
 unfold aN
 cases q:rQ ss i with
 |none=>omega
 |some s=>obtain⟨k,rfl,hs,_⟩:=j1 q;exact(h k s hs).2
def vh(ss:List St)(D:Int):Nat->Int->Bool
 |0,_=>false
 |f+1,i=>if decide (-1<i)then(if aN ss i==D then true else vh ss D f (aN ss i))else false
def aB(ss:List St)(D low:Int):Bool:=vh ss D (low+1).toNat low
theorem yp(ss:List St)(D:Int)(f:Nat){i:Int}(h:¬-1<i):vh ss D f i=false:=by
 cases f with
 |zero=>rfl
 |succ f=>grind[vh]
def tW(ss:List St)(d target:Int):Bool:=a_ ss d==2&&aB ss d target
def qX(ss:List St)(target:Int):Nat->Int->Int
 |0,d=>d
 |f+1,d=>if(d != -1)&& !tW ss d target then qX ss target f (aN ss d)else d
def rZ(ss:List St)(state target:Int):Int:=qX ss (place ss target) (aN ss state+1).toNat (aN ss state)
theorem sy(ss:List St)(target:Int)(f:Nat){d:Int}(h:((d != -1)&& !tW ss d target)=false):qX ss target f d=d:=by
 cases f with
 |zero=>rfl
 |succ f=>grind[qX]
end Ch
section
variable (ob oo:Nat) (w:World) (ss:List St)
theorem mj(D low:Int)(O:Up ss)(I:tV w ob oo ss)(U:ss.length<=1000):
 Calls prog 218 #[.pointer (some ⟨ob,oo,none⟩),.int .i64 D,.int .i64 low] w λx w'=>x= .returned (.bool (aB ss D low))/\w'=w:=by
 go_enter func218,ntmps218
 go_wp2_with fail
 go_loop [7] (λv=>∃(i:Int) (f:Nat),v= .int .i64 i/\i+1<=(f:Int)/\Hid (aB ss D low=vh ss D f i)) (λv=>(intOf v+1).toNat)
 case atStart=>exact⟨low,(low+1).toNat,rfl,by omega,af rfl⟩
 case round=>
  obtain⟨i,f,rfl,Y,F⟩:=hrel
  by_cases E: -1<i
  ·obtain⟨f,rfl⟩:∃g,f=g+1:=⟨f-1,by omega⟩
   have J:=af (iR ob oo w ss i I U);have Z:=iy O E
   cases q:aN ss i==D with
   |true=>
    have G:=af (F.out.trans (show _=true by simp[vh,E,q]));clear F I
    go_wp2_with fail
    refine hm J ?_;rintro x X ⟨rfl,rfl⟩;go_wp2;go_ret;exact⟨by rw[G.out];rfl,rfl⟩
   |false=>?_
   have G:=af (F.out.trans (show _=vh ss D f (aN ss i)by simp[vh,E,q]));clear F I
   go_wp2_with fail
   refine hm J ?_;rintro x X ⟨rfl,rfl⟩;go_wp2
   go_round
   case rel=>exact⟨_,f,rfl,by omega,G⟩
   case measure=>simp[intOf];omega
  have G:=af (F.out.trans (yp ss D f E));clear F I;go_wp2;go_ret;exact⟨by rw[G.out];rfl,rfl⟩
theorem NY(d target:Int)(J:Up ss)(E:tV w ob oo ss)(F:ss.length<=1000):
 Calls prog 256 #[.pointer (some ⟨ob,oo,none⟩),.int .i64 d,.int .i64 target] w λx w'=>x= .returned (.bool (tW ss d target))/\w'=w:=by
 have D:=af (mh ob oo w ss d E F);have I:=af (mj ob oo w ss d target J E F)
 cases q:a_ ss d==2 with
 |true=>
  rw[show tW ss d target=aB ss d target by simp[tW,q]]
  go_enter func256,ntmps256
  go_wp2_with fail
  refine hm D ?_;rintro x G ⟨rfl,rfl⟩
  have O:(a_ ss d !=2)=false:=by simp[bne,q]
  go_wp2_with fail
  refine hm I ?_;rintro x G ⟨rfl,rfl⟩;go_wp2;go_ret;exact⟨rfl,rfl⟩
 |false=>?_
 rw[show tW ss d target=false by simp[tW,q]]
 have O:(a_ ss d !=2)=true:=by simp[bne,q]
 go_enter func256,ntmps256
 go_wp2_with fail
 refine hm D ?_;rintro x G ⟨rfl,rfl⟩;go_wp2;go_ret;exact⟨rfl,rfl⟩
theorem GH(state tg I G gd ta:Int)(ac:Value)(U:Up ss)(hS:tV w ob oo ss)(X:ss.length<=1000):
 Calls prog 222 #[.pointer (some ⟨ob,oo,none⟩),.agg #[.int .i64 state,.int .u8 tg,.int .u8 I,.int .u8 G,.int .i64 gd,ac,.int .u8 ta]] w λx w'=>x= .returned (.int .i64 (rZ ss state ta))/\Kp (λ_=>False) w w':=by
 have D:=hS.alloc (.cells #[.int .i64 state,.int .u8 tg,.int .u8 I,.int .u8 G,.int .i64 gd,ac,.int .u8 ta] 209);have Z:Kp (λ_=>False) w (w.alloc (.cells #[.int .i64 state,.int .u8 tg,.int .u8 I,.int .u8 G,.int .i64 gd,ac,.int .u8 ta] 209)):=(Kp.refl _ _).alloc _
 have z0:(w.alloc (.cells #[.int .i64 state,.int .u8 tg,.int .u8 I,.int .u8 G,.int .i64 gd,ac,.int .u8 ta] 209)).cell? ⟨w.heap.size,0,none⟩=some (.int .i64 state):=by rw[World.cell?,an];rfl
 clear hS
 go_enter func222,ntmps222
 go_wp2_with fail
 generalize (w.alloc (.cells #[.int .i64 state,.int .u8 tg,.int .u8 I,.int .u8 G,.int .i64 gd,ac,.int .u8 ta] 209))=J at D Z z0⊢;have E1:=af (qf ob oo J ss ta D X);have E2:=af (iR ob oo J ss state D X);refine hm E1 ?_;rintro x w2 ⟨rfl,rfl⟩
 go_wp2_with fail
 refine hm E2 ?_;rintro x w2 ⟨rfl,rfl⟩
 go_wp2_with fail
 go_loop [6] (λv=>∃(d:Int) (f:Nat),v= .int .i64 d/\ -1<=d/\d+1<=(f:Int)/\Hid (rZ ss state ta=qX ss (Ch.place ss ta) f d)) (λv=>(intOf v+1).toNat)
 case atStart=>exact⟨_,(aN ss state+1).toNat,rfl,gE U _,by omega,af rfl⟩
 case round=>
  obtain⟨d,f,rfl,hd,hf,E⟩:=hrel
  cases q1:d != -1 with
  |false=>
   have F:=af (E.out.trans (sy ss _ f (by rw[q1];rfl)));clear E;go_wp2;go_ret;exact⟨by rw[F.out];rfl,Z⟩
  |true=>?_
  have aa: -1<d:=by have:d≠ -1:=by simpa using q1
                    omega
  obtain⟨f,rfl⟩:∃g,f=g+1:=⟨f-1,by omega⟩
  have O:=af (NY ob oo w2 ss d (Ch.place ss ta) U D X);have E4:=af (iR ob oo w2 ss d D X);have p1:=iy U aa;have p2:=gE U d
  cases Y:tW ss d (Ch.place ss ta)with
  |true=>
   rw[Y]at O;have F:=af (E.out.trans (sy ss _ (f+1) (by rw[Y];simp)));clear E D
   go_wp2_with fail
   refine hm O ?_;rintro x J ⟨rfl,rfl⟩;go_wp2;go_ret;exact⟨by rw[F.out];rfl,Z⟩
  |false=>?_
  rw[Y]at O;have F:=af (E.out.trans (show _=qX ss (Ch.place ss ta) f (aN ss d)by simp only[qX];rw[q1,Y];rfl));clear E D
  go_wp2_with fail
  refine hm O ?_;rintro x J ⟨rfl,rfl⟩
  go_wp2_with fail
  refine hm E4 ?_;rintro x J ⟨rfl,rfl⟩;go_wp2
  go_round
  case rel=>exact⟨_,f,rfl,p2,by omega,F⟩
  case measure=>simp[intOf];omega
end
theorem xN{α:Type}(f:α->List Value)(n:Nat)(E:∀a,(f a).length=n):∀(l:List α) (k j:Nat) (a:α),l[k]? =some a->j<n->(l.flatMap f)[k*n+j]? =(f a)[j]?:=by
 intro l
 induction l with
 |nil=>simp_all
 |cons b l F=>?_
 intro k j a h D;rw[nH]
 cases k with
 |zero=>grind
 |succ k=>?_
 grind
def oT(T:TypeId):Prop:=T=87\/T=119\/T=138
def Pl(w:World)(ob po:Nat)(ol:Ol):Prop:=∃sv tv bv lt lb B c T,(w.heap[ob]? =some (.cells c T (0,0))/\oT T/\c[po+2]? =some sv/\c[po+3]? =some tv/\c[po+4]? =some bv)/\Dh w B ol sv tv bv lt lb
def QY(T:TypeId):Prop:=oT T\/T=155\/T=209\/T=282\/T=255
theorem Pl.az{w w':World}{ob po:Nat}{ol:Ol}{S:Nat->Prop}(h:Pl w ob po ol)(k:Kp S w w')(hs:∀i E T,w.heap[i]? =some (.cells E T (0,0))->QY T->¬S i):Pl w' ob po ol:=by
 obtain⟨sv,tv,bv,lt,lb,B,c,T,⟨hb,G,c2,c3,c4⟩,F⟩:=h
 have D:∀{base e size v n xs},w.ownsRow base e size v n xs->QY e->∀i,v.ownBlock=some i->¬S i:=by
  grind[bz]
 exact⟨sv,tv,bv,lt,lb,B,c,T,⟨k.at_ hb (hs _ _ _ hb (.inl G)),G,c2,c3,c4⟩,k.owns F.ai (D F.ai (.inr (.inl rfl))),F.F9,k.owns F.cW (D F.cW (.inr (.inr (.inl rfl)))),λx hx=>k.owns (F.j_ x hx) (D (F.j_ x hx) (.inr (.inr (.inr (.inr rfl))))),
  F.I8,k.owns F.eR (D F.eR (.inr (.inr (.inr (.inl rfl))))),λx hx=>k.owns (F.rY x hx) (D (F.rY x hx) (.inr (.inr (.inr (.inr rfl)))))⟩
theorem Pl.alloc{w:World}{ob po:Nat}{ol:Ol}(h:Pl w ob po ol)(o:Obj):Pl (w.alloc o) ob po ol:=
 h.az (S:=λ_=>False) ((Kp.refl _ _).alloc _) (λ_ _ _ _ _ x=>x)
theorem Pl.str{w:World}{ob po:Nat}{ol:Ol}(h:Pl w ob po ol):tV w ob po ol.ai:=by
 obtain⟨sv,tv,bv,lt,lb,B,c,T,⟨hb,D,c2,c3,c4⟩,F⟩:=h;exact⟨sv,B,by simp[World.cell?,hb,c2],F.ai⟩
theorem Pl.WU{w:World}{ob po:Nat}{ol:Ol}(h:Pl w ob po ol):∃D cap,w.cell? ⟨ob,po+3,none⟩=some (.slice D ol.cW.length cap):=by
 obtain⟨sv,tv,bv,lt,lb,B,c,T,⟨hb,E,c2,c3,c4⟩,F⟩:=h;obtain⟨D,cap,e⟩:=bn F.cW;exact⟨D,cap,by rw[<-F.F9,gx,<-e];simp[World.cell?,hb,c3]⟩
theorem Pl.WV{w:World}{ob po:Nat}{ol:Ol}(h:Pl w ob po ol):∃D cap,w.cell? ⟨ob,po+4,none⟩=some (.slice D ol.eR.length cap):=by
 obtain⟨sv,tv,bv,lt,lb,B,c,T,⟨hb,E,c2,c3,c4⟩,F⟩:=h;obtain⟨D,cap,e⟩:=bn F.eR;exact⟨D,cap,by rw[<-F.I8,gx,<-e];simp[World.cell?,hb,c4]⟩
theorem Pl.tr{w:World}{ob po:Nat}{ol:Ol}(h:Pl w ob po ol){k:Nat}{t:Tr}(D:ol.cW[k]? =some t):
 ∃g cap ac B,w.cell? ⟨ob,po+3,none⟩=some (.slice (some ⟨g,0,none⟩) ol.cW.length cap)/\(∀j,j<7->w.cell? ⟨g,k*7+j,none⟩=[Value.int .i64 t.state,.int .u8 t.qP,.int .u8 t.guard.var,.int .u8 t.guard.sign,.int .i64 t.guard.digit,ac,.int .u8 t.target][j]?)/\
  w.ownsRow B 255 3 ac t.bD.length (gT t.bD):=by
 obtain⟨sv,tv,bv,lt,lb,B,c,T,⟨hb,G,c2,c3,c4⟩,F⟩:=h;rw[<-F.F9,bw]at D
 cases E:lt[k]? with
 |none=>simp_all
 |some x=>?_
 rw[E]at D;simp at D;subst D;have hk:=(aJ.1 E).1;obtain⟨g,cap,rfl⟩:=ij F.cW (by omega);refine⟨g,cap,x.2,B,by rw[<-F.F9,gx];simp[World.cell?,hb,c3],λj hj=>?_,F.j_ x (aM E)⟩;rw[F.cW.cellAt (k*7+j) (by omega)];exact xN _ 7 (by intro _;rfl) lt k j x E hj
theorem Pl.bl{w:World}{ob po:Nat}{ol:Ol}(h:Pl w ob po ol){k:Nat}{t:Bl}(D:ol.eR[k]? =some t):
 ∃g cap ac B,w.cell? ⟨ob,po+4,none⟩=some (.slice (some ⟨g,0,none⟩) ol.eR.length cap)/\(∀j,j<3->w.cell? ⟨g,k*3+j,none⟩=[Value.int .i64 t.state,.int .u8 t.sign,ac][j]?)/\
  w.ownsRow B 255 3 ac t.bD.length (gT t.bD):=by
 obtain⟨sv,tv,bv,lt,lb,B,c,T,⟨hb,G,c2,c3,c4⟩,F⟩:=h;rw[<-F.I8,bw]at D
 cases E:lb[k]? with
 |none=>simp_all
 |some x=>?_
 rw[E]at D;simp at D;subst D;have hk:=(aJ.1 E).1;obtain⟨g,cap,rfl⟩:=ij F.eR (by omega);refine⟨g,cap,x.2,B,by rw[<-F.I8,gx];simp[World.cell?,hb,c4],λj hj=>?_,F.rY x (aM E)⟩;rw[F.eR.cellAt (k*3+j) (by omega)];exact xN _ 3 (by intro _;rfl) lb k j x E hj
structure Ch.Ma where
 s:Sd
 q:List Int
 out:List Int
def iW(w:World)(mb ob po:Nat)(s:Sd)(qv ov:Value):Prop:=ey w mb [.pointer (some ⟨ob,po,none⟩)] s [qv,ov] 149
section
variable {w:World} {mb ob po:Nat} {s:Sd} {qv ov:Value}
theorem iW.kb(h:iW w mb ob po s qv ov):w.cell? ⟨mb,0,none⟩=some (.pointer (some ⟨ob,po,none⟩)):=by
 unfold iW ey kP at h;simp[World.cell?,h]
theorem iW.queue(h:iW w mb ob po s qv ov)(hw:s.Wf):w.cell? ⟨mb,37,none⟩=some qv:=by
 have:=ey.at_ h hw 20;simpa[cX,bZ,hw.2,List.getElem?_append]using this
theorem iW.out(h:iW w mb ob po s qv ov)(hw:s.Wf):w.cell? ⟨mb,38,none⟩=some ov:=by
 have:=ey.at_ h hw 21;simpa[cX,bZ,hw.2,List.getElem?_append]using this
theorem iW.GI(h:iW w mb ob po s qv ov)(hw:s.Wf)(v:Value):iW (w.setCell ⟨mb,37,none⟩ v) mb ob po s v ov:=by
 have:=ey.GA h hw 20 v;unfold iW ey
 have e:(cX s++[qv,ov]).set 20 v=cX s++[v,ov]:=by
  have D:(cX s).length=20:=by simp[cX,bZ,hw.2]
  simp_all
 simp_all
theorem iW.UG(h:iW w mb ob po s qv ov)(hw:s.Wf)(v:Value):iW (w.setCell ⟨mb,38,none⟩ v) mb ob po s qv v:=by
 have:=ey.GA h hw 21 v;unfold iW ey
 have e:(cX s++[qv,ov]).set 21 v=cX s++[qv,v]:=by
  have D:(cX s).length=20:=by simp[cX,bZ,hw.2]
  simp_all
 simp_all
end
def km(B mb:Nat)(w:World)(k:Nat):Prop:=k=mb\/(B<=k/\∃D,w.heap[k]? =some (.cells D 5 (0,0)))
theorem Km.trans{B mb:Nat}{a b c:World}(h:Kp (km B mb a) a b)(k:Kp (km B mb b) b c):Kp (km B mb a) a c:=
 h.trans' k λi hi x=>by
  by_cases q:km B mb a i
  ·exact q
  rcases x with x|⟨x,D,y⟩
  ·exact .inl x
  rw[h.block i hi q]at y;exact .inr ⟨x,D,y⟩
theorem Pl.km{w w':World}{B mb ob po:Nat}{ol:Ol}{c:Array Value}(h:Pl w ob po ol)(k:Kp (km B mb w) w w')(hm:w.heap[mb]? =some (.cells c 149 (0,0))):Pl w' ob po ol:=
 h.az k λi cur T hi hT x=>by
  rcases x with rfl|⟨_,D,y⟩
  ·rw[hm]at hi;simp at hi;obtain⟨_,rfl⟩:=hi;revert hT;unfold QY oT;decide
  rw[y]at hi;simp at hi;obtain⟨_,rfl⟩:=hi;revert hT;unfold QY oT;decide
def Mm(w:World)(B mb ob po:Nat)(m:Ma):Prop:=∃qv ov,iW w mb ob po m.s qv ov/\dh w B qv (aD m.q)/\dh w B ov (aD m.out)/\kQ qv ov
namespace Ch
def Sd.Ok(s:Sd):Prop:=s.Wf/\((-99<=s.x/\s.x<=99)/\(-99<=s.y/\s.y<=99)/\(-99<=s.z/\s.z<=99))/\s.tm.size<=17
def Ac.Ok(a:Ac):Prop:=0<=a.digit/\a.digit<=9
theorem UH{s:Sd}(h:s.Ok)(c:Int): -99<=var s c/\var s c<=99:=by
 obtain⟨_,⟨D,E,F⟩,_⟩:=h;grind[var]
def fG(s:Sd)(a:Ac):Int:=if a.sign==43 then var s a.aF+a.digit else if a.sign==45 then var s a.aF-a.digit else a.digit
def qi(s:Sd)(c n:Int):Sd:=if mT n then gX s c n else s
theorem QZ{s:Sd}(h:s.Ok)(c n:Int):(qi s c n).Ok:=by
 unfold qi
 split
 ·rename_i q
  simp[mT]at q;obtain⟨D,⟨F,G,I⟩,E⟩:=h;unfold gX
  split
  ·exact⟨D,⟨q,G,I⟩,E⟩
  split
  ·exact⟨D,⟨F,q,I⟩,E⟩
  exact⟨D,⟨F,G,q⟩,E⟩
 omega
end Ch
section
variable (w:World) (B mb ob po:Nat)
theorem tE(m:Ma)(c:Int)(h:Mm w B mb ob po m)(hw:m.s.Wf)(hB:B<=w.heap.size)(hq:m.q.length<=1000000000):
 Calls prog 183 #[.pointer (some ⟨mb,0,none⟩),.int .u8 c] w λx w'=>x= .returned (.tuple #[])/\Mm w' B mb ob po {m with q:=m.q++[c]}/\Kp (km B mb w) w w':=by
 obtain⟨qv,ov,hm,I,oo,Z⟩:=h;have cq:=hm.queue hw;have X:=af hm;clear hm
 go_enter func183,ntmps183
 go_wp2_with (at_builtin;refine fZ rfl (.tmp 8) (.tmp 10) rfl rfl (I.alloc _) ⟨w.heap.size,0,none⟩ 1 1 [.int .u8 c] rfl rfl (by decide) (by exact fy _ _ _) (by intro u hu;simp at hu;subst hu;rfl) (by simp[aD];omega) (by simp;omega) ?_)
 intro ga oa ca w3 J g3 D;have U:=((Kp.refl _ _).alloc _).grown g3 (λi hi _=>hi);have F:iW _ _ _ _ _ _ _:=ey.az X.out U (I.ne X.out (by decide));have G:=oo.az U (λi hi x=>Z i x hi)
 have E:kQ (.slice (some ⟨ga,oa,none⟩) ((aD m.q).length+1) ca) ov:=by
  intro i hi x;simp[Value.ownBlock]at hi;subst hi
  rcases D with D|D
  ·exact Z _ D x
  have:=(oo.lt _ x).2;try simp at D
  omega
 have O:Kp (km B mb w) w w3:=(Kp.refl _ _).trans' U (λi hi x=>.inr ⟨(I.lt i x).1,I.block x⟩);have aa:=F.queue hw;have ad:=ey.free F 37;have HH:=af (ae F (ae J (ae G (ae E O))));clear X U F G E O I oo Z J g3 D cq;go_wp2
 go_end0
 obtain⟨F,J,G,E,O⟩:=HH.out;have n1:=J.ne F (by decide);have n2:=G.ne F (by decide);have Y:Kp (λk=>k=mb) w3 (w3.setCell ⟨mb,37,none⟩ (.slice (some ⟨ga,oa,none⟩) ((aD m.q).length+1) ca)):=(Kp.refl _ _).setCell (by intro _;rfl) _;refine⟨rfl,⟨_,ov,F.GI hw _,?_,G.az Y (λi hi x=>by subst x;exact n2 hi),E⟩,O.trans' Y (λi _ x=>.inl x)⟩;rw[eN];exact J.az Y (λi hi x=>by subst x;exact n1 hi)
theorem Mm.turn{w w':World}{B mb ob po:Nat}{m:Ma}(h:Mm w B mb ob po m){s:Sd}(hk:Kp (λk=>k=mb) w w')(hs:∀qv ov,iW w mb ob po m.s qv ov->iW w' mb ob po s qv ov):
 Mm w' B mb ob po {m with s:=s}/\Kp (km B mb w) w w':=by
 obtain⟨qv,ov,hm,D,oo,E⟩:=h;have F:=D.ne hm (by decide);have G:=oo.ne hm (by decide);exact⟨⟨qv,ov,hs qv ov hm,D.az hk (λi hi x=>by subst x;exact F hi),oo.az hk (λi hi x=>by subst x;exact G hi),E⟩,(Kp.refl _ _).trans' hk (λi _ x=>.inl x)⟩
theorem GJ(m:Ma)(a:Ac)(h:Mm w B mb ob po m)(hs:m.s.Ok)(ha:a.Ok):
 Calls prog 225 #[.pointer (some ⟨mb,0,none⟩),.agg #[.int .u8 a.sign,.int .u8 a.aF,.int .i64 a.digit]] w λx w'=>x= .returned (.bool (mT (fG m.s a)))/\Mm w' B mb ob po {m with s:=qi m.s a.aF (fG m.s a)}/\Kp (km B mb w) w w':=by
 obtain⟨qv,ov,hm,oq,oo,ap⟩:=h;have K1:Kp (λ_=>False) w (w.alloc (.cells #[.int .u8 a.sign,.int .u8 a.aF,.int .i64 a.digit] 255)):=(Kp.refl _ _).alloc _;have e1:=an w (.cells #[.int .u8 a.sign,.int .u8 a.aF,.int .i64 a.digit] 255);have E:iW _ _ _ _ _ _ _:=ey.az hm K1 (λx=>x)
 have am:w.heap.size≠mb:=λe=>by have:=ey.lt hm;omega
 have HQ:=af (ae (oq.alloc (.cells #[.int .u8 a.sign,.int .u8 a.aF,.int .i64 a.digit] 255)) (ae (oo.alloc (.cells #[.int .u8 a.sign,.int .u8 a.aF,.int .i64 a.digit] 255)) ap));obtain⟨ad,aj⟩:=ha;have hv:=UH hs a.aF;have hw:=hs.1
 have Fin:∀(w':World),ey w' mb [.pointer (some ⟨ob,po,none⟩)] (if mT (fG m.s a)then gX m.s a.aF (fG m.s a)else m.s) [qv,ov] 149->Kp (λk=>k=mb) (w.alloc (.cells #[.int .u8 a.sign,.int .u8 a.aF,.int .i64 a.digit] 255)) w'->
  Mm w' B mb ob po {m with s:=qi m.s a.aF (fG m.s a)}/\Kp (km B mb w) w w':=by
  intro w' aa hK;obtain⟨O,Z,q3⟩:=HQ.out;have n1:=O.ne E (by decide);have n2:=Z.ne E (by decide);exact⟨⟨qv,ov,aa,O.az hK (λi hi x=>by subst x;exact n1 hi),Z.az hK (λi hi x=>by subst x;exact n2 hi),q3⟩,((Kp.refl (km B mb w) w).trans' K1 (λ_ _ x=>x.elim)).trans' hK (λi _ x=>.inl x)⟩
 have D:=af Fin;clear Fin HQ oq oo ap hm
 have c0:(w.alloc (.cells #[.int .u8 a.sign,.int .u8 a.aF,.int .i64 a.digit] 255)).cell? ⟨w.heap.size,0,none⟩=some (.int .u8 a.sign):=by rw[World.cell?,e1];rfl
 have c1:(w.alloc (.cells #[.int .u8 a.sign,.int .u8 a.aF,.int .i64 a.digit] 255)).cell? ⟨w.heap.size,1,none⟩=some (.int .u8 a.aF):=by rw[World.cell?,e1];rfl
 have c2:(w.alloc (.cells #[.int .u8 a.sign,.int .u8 a.aF,.int .i64 a.digit] 255)).cell? ⟨w.heap.size,2,none⟩=some (.int .i64 a.digit):=by rw[World.cell?,e1];rfl
 clear e1 K1
 have nv:fG m.s a=if a.sign==43 then Ch.var m.s a.aF+a.digit else if a.sign==45 then Ch.var m.s a.aF-a.digit else a.digit:=rfl
 cases O:a.sign==43 with
 |true=>
  have J:fG m.s a=Ch.var m.s a.aF+a.digit:=by rw[nv,O];rfl
  have QV:IntKind.i64.wrap (Ch.var m.s a.aF+a.digit)=Ch.var m.s a.aF+a.digit:=fF ⟨by omega,by omega⟩;rw[J]at D⊢;clear nv J
  go_enter func225,ntmps225
  go_upto_region 4 with(fail)
  generalize (w.alloc (.cells #[.int .u8 a.sign,.int .u8 a.aF,.int .i64 a.digit] 255))=I at E D c0 c1 c2⊢;have E1:=af (qW I.drew mb 1 [.pointer (some ⟨ob,po,none⟩)] m.s [qv,ov] 149 a.aF (by exact E) hw rfl)
  go_region_with (go_at_call 257;refine b9 E1 ?_;rintro x w2 ⟨rfl,rfl⟩)
  all_goals
   have Y:Kp (λk=>k=mb) I _:=(Kp.refl _ _).drew.drew;have U:=af (mG I.drew.drew mb 1 [.pointer (some ⟨ob,po,none⟩)] m.s [qv,ov] 149 a.aF (Ch.var m.s a.aF+a.digit) (by exact E) hw rfl)
   go_upto_region 7 with(fail)
   go_region_with (go_at_call 258;refine b9 U ?_;rintro x w3 ⟨rfl,G,F⟩;have X:=af (ae G F);clear G F)
   all_goals
    obtain⟨G,F⟩:=X.out;go_wp2;go_ret;exact⟨rfl,D.out _ G (Y.trans F)⟩
 |false=>?_
 cases Z:a.sign==45 with
 |true=>
  have J:fG m.s a=Ch.var m.s a.aF-a.digit:=by rw[nv,O,Z];rfl
  have QV:IntKind.i64.wrap (Ch.var m.s a.aF-a.digit)=Ch.var m.s a.aF-a.digit:=fF ⟨by omega,by omega⟩;rw[J]at D⊢;clear nv J
  go_enter func225,ntmps225
  go_upto_region 6 with(fail)
  generalize (w.alloc (.cells #[.int .u8 a.sign,.int .u8 a.aF,.int .i64 a.digit] 255))=I at E D c0 c1 c2⊢;have E1:=af (qW I.drew mb 1 [.pointer (some ⟨ob,po,none⟩)] m.s [qv,ov] 149 a.aF (by exact E) hw rfl)
  go_region_with (go_at_call 257;refine b9 E1 ?_;rintro x w2 ⟨rfl,rfl⟩)
  all_goals
   have Y:Kp (λk=>k=mb) I _:=(Kp.refl _ _).drew.drew;have U:=af (mG I.drew.drew mb 1 [.pointer (some ⟨ob,po,none⟩)] m.s [qv,ov] 149 a.aF (Ch.var m.s a.aF-a.digit) (by exact E) hw rfl)
   go_upto_region 7 with(fail)
   go_region_with (go_at_call 258;refine b9 U ?_;rintro x w3 ⟨rfl,G,F⟩;have X:=af (ae G F);clear G F)
   all_goals
    obtain⟨G,F⟩:=X.out;go_wp2;go_ret;exact⟨rfl,D.out _ G (Y.trans F)⟩
 |false=>?_
 have J:fG m.s a=a.digit:=by rw[nv,O,Z];rfl
 rw[J]at D⊢;clear nv J
 go_enter func225,ntmps225
 go_upto_region 7 with(fail)
 generalize (w.alloc (.cells #[.int .u8 a.sign,.int .u8 a.aF,.int .i64 a.digit] 255))=I at E D c0 c1 c2⊢;have Y:Kp (λk=>k=mb) I _:=(Kp.refl _ _).drew;have U:=af (mG I.drew mb 1 [.pointer (some ⟨ob,po,none⟩)] m.s [qv,ov] 149 a.aF (a.digit) (by exact E) hw rfl)
 go_region_with (go_at_call 258;refine b9 U ?_;rintro x w3 ⟨rfl,G,F⟩;have X:=af (ae G F);clear G F)
 all_goals
  obtain⟨G,F⟩:=X.out;go_wp2;go_ret;exact⟨rfl,D.out _ G (Y.trans F)⟩
end
namespace Ch
def bW(m:Ma)(a:Ac):Bool×Ma:=
 if a.sign==33 then(true,{m with q:=m.q++[a.aF]})
 else if a.sign==64 then((send m.s a.aF a.digit).1,{m with s:=(send m.s a.aF a.digit).2})
 else if a.sign==126 then(true,{m with s:=oe m.s a.aF})
 else if a.sign==35 then(true,{m with out:=m.out++[a.aF]})
 else(mT (fG m.s a),{m with s:=qi m.s a.aF (fG m.s a)})
theorem Jn(t:ByteArray)(c:Int):∀(f k:Nat) (acc:List Int),acc.length<=k->k<=t.size->(sw t c f k acc).length<=t.size:=by
 intro f
 induction f with
 |zero=>grind[sw]
 |succ f D=>?_
 grind[sw]
theorem Dw{s:Sd}(h:s.Ok)(c:Int):(oe s c).Ok:=by
 obtain⟨D,E,F⟩:=h;refine⟨D,E,?_⟩;show(strOfNums (sw s.tm c s.tm.size 0 [])).size<=17;rw[cC];grind[Jn]
theorem Q0{s:Sd}(h:s.Ok)(ev d:Int):(send s ev d).2.Ok:=by
 unfold send
 split
 ·omega
 obtain⟨D,E,F⟩:=h;refine⟨D,E,?_⟩;show(s.tm++strOfNums [ev,48+d]).size<=17;rw[iJ,cC];grind
theorem yq{m:Ma}(h:m.s.Ok)(a:Ac):(bW m a).2.s.Ok:=by
 grind[bW,Q0,Dw,QZ]
theorem Cg(m:Ma)(a:Ac):(bW m a).2.q.length<=m.q.length+1/\(bW m a).2.out.length<=m.out.length+1:=by
 grind[bW]
def dF:List Ac->Ma->Ma
 | [],m=>m
 |a::l,m=>if(bW m a).1 then dF l (bW m a).2 else {(bW m a).2 with q:=(bW m a).2.q++[122]}
theorem ql:∀(l:List Ac) {m:Ma},m.s.Ok->(dF l m).s.Ok:=by
 intro l
 induction l with
 |nil=>intro m h;exact h
 |cons a l D=>?_
 grind[dF,yq]
theorem Dx:∀(l:List Ac) (m:Ma),(dF l m).q.length<=m.q.length+2*l.length/\(dF l m).out.length<=m.out.length+2*l.length:=by
 intro l
 induction l with
 |nil=>grind[dF]
 |cons a l D=>?_
 grind[Cg,dF,bW]
end Ch
theorem Mm.still{w w':World}{B mb ob po:Nat}{m:Ma}(h:Mm w B mb ob po m)(k:Kp (λ_=>False) w w'):Mm w' B mb ob po m:=by
 obtain⟨qv,ov,hm,E,oo,D⟩:=h;exact⟨qv,ov,ey.az hm k (λx=>x),E.az k (λ_ _ x=>x),oo.az k (λ_ _ x=>x),D⟩
theorem Kp.km{w w':World}{B mb:Nat}(k:Kp (λ_=>False) w w'):Kp (km B mb w) w w':=(Kp.refl _ _).trans' k (λ_ _ x=>x.elim)
section
variable (w:World) (B mb ob po:Nat)
theorem Ks(m:Ma)(a:Ac)(h:Mm w B mb ob po m)(hs:m.s.Ok)(ha:a.Ok)(hB:B<=w.heap.size)(hq:m.q.length<=1000000000)(hu:m.out.length<=1000000000):
 Calls prog 182 #[.pointer (some ⟨mb,0,none⟩),.agg #[.int .u8 a.sign,.int .u8 a.aF,.int .i64 a.digit]] w λx w'=>x= .returned (.bool (bW m a).1)/\Mm w' B mb ob po (bW m a).2/\Kp (km B mb w) w w':=by
 have K1:Kp (λ_=>False) w (w.alloc (.cells #[.int .u8 a.sign,.int .u8 a.aF,.int .i64 a.digit] 255)):=(Kp.refl _ _).alloc _;have e1:=an w (.cells #[.int .u8 a.sign,.int .u8 a.aF,.int .i64 a.digit] 255);have M1:=h.still K1
 have aj:B<=((w.alloc (.cells #[.int .u8 a.sign,.int .u8 a.aF,.int .i64 a.digit] 255))).heap.size:=by have:=K1.size;omega
 have hw:=hs.1
 have c0:(w.alloc (.cells #[.int .u8 a.sign,.int .u8 a.aF,.int .i64 a.digit] 255)).cell? ⟨w.heap.size,0,none⟩=some (.int .u8 a.sign):=by rw[World.cell?,e1];rfl
 have c1:(w.alloc (.cells #[.int .u8 a.sign,.int .u8 a.aF,.int .i64 a.digit] 255)).cell? ⟨w.heap.size,1,none⟩=some (.int .u8 a.aF):=by rw[World.cell?,e1];rfl
 have c2:(w.alloc (.cells #[.int .u8 a.sign,.int .u8 a.aF,.int .i64 a.digit] 255)).cell? ⟨w.heap.size,2,none⟩=some (.int .i64 a.digit):=by rw[World.cell?,e1];rfl
 have row:=e1;have HK:=af (K1.km (B:=B) (mb:=mb));have HM:=af M1;clear K1 e1 h M1
 have nv:bW m a=if a.sign==33 then(true,{m with q:=m.q++[a.aF]})else if a.sign==64 then((Ch.send m.s a.aF a.digit).1,{m with s:=(Ch.send m.s a.aF a.digit).2})else if a.sign==126 then(true,{m with s:=oe m.s a.aF})else if a.sign==35 then(true,{m with out:=m.out++[a.aF]})else(mT (fG m.s a),{m with s:=qi m.s a.aF (fG m.s a)}):=rfl
 cases q1:a.sign==33 with
 |true=>
  rw[show bW m a=(true,{m with q:=m.q++[a.aF]})by rw[nv,q1];rfl];have E:=af (tE (w.alloc (.cells #[.int .u8 a.sign,.int .u8 a.aF,.int .i64 a.digit] 255)) B mb ob po m a.aF HM.out hw aj hq);clear nv
  go_enter func182,ntmps182
  go_wp2_with fail
  refine b9 E ?_;rintro x w2 ⟨rfl,M2,K2⟩;have H2:=af (ae M2 (Km.trans HK.out K2));clear E M2 K2;go_wp2;go_ret;exact⟨rfl,H2.out.1,H2.out.2⟩
 |false=>?_
 cases q2:a.sign==64 with
 |true=>
  rw[show bW m a=((Ch.send m.s a.aF a.digit).1,{m with s:=(Ch.send m.s a.aF a.digit).2})by rw[nv,q1,q2];rfl];obtain⟨qv,ov,hm,D,oo,G⟩:=HM.out;have E:=af (NO ((w.alloc (.cells #[.int .u8 a.sign,.int .u8 a.aF,.int .i64 a.digit] 255))).drew mb 1 [.pointer (some ⟨ob,po,none⟩)] m.s [qv,ov] 149 a.aF a.digit (by exact hm) hw rfl ha.1 ha.2);have X:=af (ae hm (ae D (ae oo G)));clear nv D oo G hm
  go_enter func182,ntmps182
  go_upto_region 6 with(fail)
  go_region_with (go_at_call 223;refine b9 E ?_;rintro x w3 ⟨rfl,U,O⟩;have Z:=af (ae U O);clear U O)
  all_goals
   obtain⟨U,O⟩:=Z.out;obtain⟨hm,D,oo,G⟩:=X.out;have n1:=D.ne hm (by decide);have n2:=oo.ne hm (by decide);have I:=(show Kp (λk=>k=mb) (w.alloc (.cells #[.int .u8 a.sign,.int .u8 a.aF,.int .i64 a.digit] 255)) ((w.alloc (.cells #[.int .u8 a.sign,.int .u8 a.aF,.int .i64 a.digit] 255))).drew from(Kp.refl _ _).drew).trans O
   have MF:Mm _ _ _ _ _ {m with s:=(Ch.send m.s a.aF a.digit).2}:=⟨qv,ov,U,D.az I (λi hi x=>by subst x;exact n1 hi),oo.az I (λi hi x=>by subst x;exact n2 hi),G⟩
   have KF:=HK.out.trans' I (λi _ x=>.inl x);clear U O hm D oo n1 n2 I Z;go_wp2;go_ret;exact⟨rfl,MF,KF⟩
 |false=>?_
 cases q3:a.sign==126 with
 |true=>
  rw[show bW m a=(true,{m with s:=oe m.s a.aF})by rw[nv,q1,q2,q3];rfl];obtain⟨qv,ov,hm,D,oo,G⟩:=HM.out;have E:=af (Ce ((w.alloc (.cells #[.int .u8 a.sign,.int .u8 a.aF,.int .i64 a.digit] 255))).drew mb 1 [.pointer (some ⟨ob,po,none⟩)] m.s [qv,ov] 149 a.aF (by exact hm) hw rfl (by have:=hs.2.2;omega));have X:=af (ae hm (ae D (ae oo G)));clear nv D oo G hm
  go_enter func182,ntmps182
  go_upto_region 8 with(fail)
  go_region_with (go_at_call 224;refine b9 E ?_;rintro x w3 ⟨rfl,U,O⟩;have Z:=af (ae U O);clear U O)
  all_goals
   obtain⟨U,O⟩:=Z.out;obtain⟨hm,D,oo,G⟩:=X.out;have n1:=D.ne hm (by decide);have n2:=oo.ne hm (by decide);have I:=(show Kp (λk=>k=mb) (w.alloc (.cells #[.int .u8 a.sign,.int .u8 a.aF,.int .i64 a.digit] 255)) ((w.alloc (.cells #[.int .u8 a.sign,.int .u8 a.aF,.int .i64 a.digit] 255))).drew from(Kp.refl _ _).drew).trans O
   have MF:Mm _ _ _ _ _ {m with s:=oe m.s a.aF}:=⟨qv,ov,U,D.az I (λi hi x=>by subst x;exact n1 hi),oo.az I (λi hi x=>by subst x;exact n2 hi),G⟩
   have KF:=HK.out.trans' I (λi _ x=>.inl x);clear U O hm D oo n1 n2 I Z;go_wp2;go_ret;exact⟨rfl,MF,KF⟩
 |false=>?_
 cases q4:a.sign==35 with
 |true=>
  rw[show bW m a=(true,{m with out:=m.out++[a.aF]})by rw[nv,q1,q2,q3,q4];rfl];obtain⟨qv,ov,hm,D,oo,G⟩:=HM.out;have co:=hm.out hw
  have ad:=λo=>iW.out (ey.az hm ((Kp.refl (λ_=>False) _).alloc o) (λx=>x)) hw
  have X:=af (ae hm (ae D (ae oo G)));clear nv D oo G hm HM
  go_enter func182,ntmps182
  go_upto_region 10 with(fail)
  generalize (w.alloc (.cells #[.int .u8 a.sign,.int .u8 a.aF,.int .i64 a.digit] 255))=w1 at*
  go_region_law (refine Aj rfl (.tmp 40) (.tmp 43) rfl (v:=ov) (by simp[Act.eval]) (by exact X.out.2.2.1.alloc _) ⟨w1.heap.size,0,none⟩ 1 1 [.int .u8 a.aF] (by simp[Act.eval]) rfl (by decide) (by exact fy _ _ _) (by intro u hu;simp at hu;subst hu;rfl) (by simp[aD];omega) (by simp;omega) ?_;intro ga oa ca w3 J g3 F;have KG:Kp (λi=>ov.ownBlock=some i) w1 w3:=Kp.grown (by exact((Kp.refl _ _).alloc _).drew) g3 (λi hi _=>hi);have Y:iW w3 mb ob po m.s qv ov:=ey.az X.out.1 KG (X.out.2.2.1.ne X.out.1 (by decide));have x1:=Y.out hw;have x2:=ey.free Y 38;have Z:=af (ae Y (ae J (ae KG F)));clear Y J KG g3 F)
  all_goals
   obtain⟨Y,J,KG,F⟩:=Z.out;obtain⟨hm,D,oo,G⟩:=X.out;clear x1 x2 Z X co ad;have UI:=D.az KG (λi hi x=>G i hi x)
   have aa:kQ qv (.slice (some ⟨ga,oa,none⟩) ((aD m.out).length+1) ca):=by
    intro i hi x;simp[Value.ownBlock]at x;subst x
    rcases F with F|F
    ·exact G _ hi F
    have:=(D.lt _ hi).2;try simp at F
    omega
   have KA:Kp (km B mb w1) _ _:=(Kp.refl _ _).trans' KG (λi hi x=>.inr ⟨(oo.lt i x).1,oo.block x⟩);have n1:=J.ne Y (by decide);have n2:=UI.ne Y (by decide);have I:Kp (λk=>k=mb) w3 (w3.setCell ⟨mb,38,none⟩ (.slice (some ⟨ga,oa,none⟩) ((aD m.out).length+1) ca)):=(Kp.refl _ _).setCell (by intro _;rfl) _
   have MF:Mm (w3.setCell ⟨mb,38,none⟩ (.slice (some ⟨ga,oa,none⟩) ((aD m.out).length+1) ca)) B mb ob po {m with out:=m.out++[a.aF]}:=
    ⟨qv,_,Y.UG hw _,UI.az I (λi hi x=>by subst x;exact n2 hi),by rw[eN];exact J.az I (λi hi x=>by subst x;exact n1 hi),aa⟩
   have KF:=Km.trans HK.out (KA.trans' I (λi _ x=>.inl x));generalize w3.setCell ⟨mb,38,none⟩ (.slice (some ⟨ga,oa,none⟩) ((aD m.out).length+1) ca)=w4 at MF KF⊢;clear Y J KG F hm D oo G UI aa KA n1 n2 I;go_wp2;go_ret;exact⟨rfl,MF,KF⟩
 |false=>?_
 rw[show bW m a=(mT (fG m.s a),{m with s:=qi m.s a.aF (fG m.s a)})by rw[nv,q1,q2,q3,q4];rfl];have E:=af (GJ (w.alloc (.cells #[.int .u8 a.sign,.int .u8 a.aF,.int .i64 a.digit] 255)) B mb ob po m a HM.out hs ha);clear nv
 go_enter func182,ntmps182
 go_wp2_with fail
 refine b9 E ?_;rintro x w2 ⟨rfl,M2,K2⟩;have H2:=af (ae M2 (Km.trans HK.out K2));clear E M2 K2;go_wp2;go_ret;exact⟨rfl,H2.out.1,H2.out.2⟩
end
section
variable {w w':World} {B mb ob po:Nat} {m:Ma}
theorem Mm.bO(h:Mm w B mb ob po m):∃c,w.heap[mb]? =some (.cells c 149 (0,0)):=by
 obtain⟨qv,ov,hm,_⟩:=h;exact⟨_,hm⟩
theorem Mm.lt(h:Mm w B mb ob po m):mb<w.heap.size:=by obtain⟨c,D⟩:=h.bO;grind
theorem Mm.at_(h:Mm w B mb ob po m)(k:Kp (km B mb w) w w'){i:Nat}{c:Array Value}{T:TypeId}{f:Nat×Nat}(hi:w.heap[i]? =some (.cells c T f))(F:T≠149)(G:T≠5):w'.heap[i]? =some (.cells c T f):=by
 refine k.at_ hi λx=>?_
 rcases x with rfl|⟨_,D,y⟩
 ·obtain⟨E,I⟩:=h.bO
  simp_all
 simp_all
theorem Mm.row(h:Mm w B mb ob po m)(k:Kp (km B mb w) w w'){base:Nat}{e:TypeId}{size:Nat}{v:Value}{n:Nat}{xs:List Value}(E:w.ownsRow base e size v n xs)(J:e≠149)(O:e≠5):w'.ownsRow base e size v n xs:=by
 refine k.owns E λi hi x=>?_
 obtain⟨F,U⟩:=bz E hi
 rcases x with rfl|⟨_,D,y⟩
 ·obtain⟨I,G⟩:=h.bO
  simp_all
 simp_all
theorem Mm.pl(h:Mm w B mb ob po m)(k:Kp (km B mb w) w w'){pb pp:Nat}{ol:Ol}(p:Pl w pb pp ol):Pl w' pb pp ol:=by
 obtain⟨c,D⟩:=h.bO;exact p.km k D
end
theorem GK(l:List Ac)(k:Nat)(a:Ac)(h:l[k]? =some a):(gT l)[k*3]? =some (.int .u8 a.sign)/\(gT l)[k*3+1]? =some (.int .u8 a.aF)/\(gT l)[k*3+2]? =some (.int .i64 a.digit):=by
 have:=xN (λa:Ac=>[Value.int .u8 a.sign,.int .u8 a.aF,.int .i64 a.digit]) 3 (by intro _;rfl) l k;exact⟨this 0 a h (by omega),this 1 a h (by omega),this 2 a h (by omega)⟩
section
variable (w:World) (B mb ob po:Nat)
theorem NZ(m:Ma)(D:List Ac)(av:Value)(base:Nat)(ho:w.ownsRow base 255 3 av D.length (gT D))(h:Mm w B mb ob po m)(hs:m.s.Ok)(ha:∀a∈D,a.Ok)(hB:B<=w.heap.size)(hl:D.length<=1000)(hq:m.q.length<=995000000)(hu:m.out.length<=995000000):
 Calls prog 134 #[.pointer (some ⟨mb,0,none⟩),av] w λx w'=>x= .returned (.tuple #[])/\Mm w' B mb ob po (dF D m)/\Kp (km B mb w) w w':=by
 obtain⟨ao,cap,rfl⟩:=bn ho
 go_enter func134,ntmps134
 go_wp2_with fail
 go_loopw [4] (λi wr=>∃(k:Nat) (E:Ma),i= .int .i64 k/\k<=D.length/\Hid (dF D m=dF (D.drop k) E)/\Mm wr B mb ob po E/\E.s.Ok/\E.q.length<=m.q.length+k/\E.out.length<=m.out.length+k/\Kp (km B mb w) w wr) (λi _=>D.length-(intOf i).toNat)
 case atStart=>exact⟨0,m,rfl,aG _,af rfl,h,hs,aC _,aC _,Kp.refl _ _⟩
 case round=>
  obtain⟨k,E,rfl,hk,O,I,ad,aO,aS,Z⟩:=hrel;have F:=h.row Z ho (by decide) (by decide)
  have aj:B<=wr.heap.size:=by have:=Z.size;omega
  by_cases aa:k<D.length
  ·have ap:(k:Int)<(D.length:Int):=by omega
   obtain⟨a,G⟩:∃s,D[k]? =some s:=⟨_,ar aa⟩
   obtain⟨g,am,hg⟩:=ij F (by omega);simp only[aK,bS]at hg;obtain⟨rfl,rfl⟩:=hg;obtain⟨z0,z1,z2⟩:=GK D k a G;have a0:=(F.cellAt (k*3) (by omega)).trans z0;have a1:=(F.cellAt (k*3+1) (by omega)).trans z1;have a2:=(F.cellAt (k*3+2) (by omega)).trans z2
   have ed:D.drop k=a::D.drop (k+1):=by
    rw[eZ aa];congr 1;exact(aJ.1 G).2
   have J:=af (Ks wr B mb ob po E a I ad (ha a (aM G)) aj (by omega) (by omega));have WX:=Cg E a;have Q1:=yq ad a
   cases q1:(bW E a).1 with
   |true=>
    rw[q1]at J;have U:=af (O.out.trans (show _=dF (D.drop (k+1)) (bW E a).2 by rw[ed];simp only[dF];rw[q1];rfl));clear ed O G F z0 z1 z2 I ho h
    go_wp2_with fail
    refine b9 J ?_;rintro x w2 ⟨rfl,M2,X⟩;have Y:=Km.trans Z X;clear J X a0 a1 a2;go_wp2
    go_roundw
    case rel=>exact⟨k+1,_,by go_num,by omega,U,M2,Q1,by omega,by omega,Y⟩
    case measure=>simp[intOf];omega
   |false=>?_
   rw[q1]at J;have U:=af (O.out.trans (show _={(bW E a).2 with q:=(bW E a).2.q++[122]}by rw[ed];simp only[dF];rw[q1];rfl));clear ed O G F z0 z1 z2 I ho h
   go_wp2_with fail
   refine b9 J ?_;rintro x w2 ⟨rfl,M2,X⟩;have Y:=Km.trans Z X;have E2:=af (tE w2 B mb ob po (bW E a).2 122 M2 Q1.1 (by have:=Y.size;omega) (by omega));clear J X a0 a1 a2
   go_wp2_with fail
   refine b9 E2 ?_;rintro x w4 ⟨rfl,M4,K4⟩;have K5:=Km.trans Y K4;clear E2 K4 Y M2;go_wp2;refine bg (k9 rfl _ _ _) rfl ?_;rw[U.out];exact⟨rfl,M4,K5⟩
  have aI:¬(k:Int)<(D.length:Int):=by omega
  have U:=af (O.out.trans (show _=E by rw[c_ (by omega)];rfl));clear O;go_wp2
  go_end0
  rw[U.out];exact⟨rfl,I,Z⟩
end
namespace Ch
def d_(state sign:Int):List Bl->Ma->Ma
 | [],m=>m
 |b::l,m=>d_ state sign l (if(b.state==state)&&(b.sign==sign)then dF b.bD m else m)
structure Ol.Ok(ol:Ol):Prop where
 up:Up ol.ai
 ai:ol.ai.length<=16
 cW:ol.cW.length<=240
 eR:ol.eR.length<=240
 j_:∀t∈ol.cW,t.bD.length<=240/\∀a∈t.bD,a.Ok
 rY:∀b∈ol.eR,b.bD.length<=240/\∀a∈b.bD,a.Ok
def Ma.Sz(m:Ma)(n:Nat):Prop:=m.q.length<=n/\m.out.length<=n
theorem tF{m:Ma}{n:Nat}(h:m.Sz n){l:List Ac}(D:l.length<=240):(dF l m).Sz (n+480):=by
 grind[Dx,Ma.Sz]
theorem N0(state sign:Int):∀(l:List Bl) {m:Ma} {n:Nat},m.Sz n->(∀b∈l,b.bD.length<=240)->(d_ state sign l m).Sz (n+480*l.length):=by
 intro l
 induction l with
 |nil=>grind[d_]
 |cons b l F=>?_
 intro m n h E;simp only[d_]
 have D:((if(b.state==state)&&(b.sign==sign)then dF b.bD m else m):Ma).Sz (n+480):=by
  grind[tF,Ma.Sz]
 grind[Ma.Sz]
theorem vi(state sign:Int):∀(l:List Bl) {m:Ma},m.s.Ok->(d_ state sign l m).s.Ok:=by
 intro l
 induction l with
 |nil=>intro m h;exact h
 |cons b l D=>?_
 grind[d_,ql]
end Ch
section
variable (w:World) (B mb ob po:Nat)
theorem qY(m:Ma)(ol:Ol)(state sign:Int)(hp:Pl w ob po ol)(aj:ol.Ok)(h:Mm w B mb ob po m)(hs:m.s.Ok)(hB:B<=w.heap.size)(hz:m.Sz 990000000):
 Calls prog 167 #[.pointer (some ⟨mb,0,none⟩),.int .i64 state,.int .u8 sign] w λx w'=>x= .returned (.tuple #[])/\Mm w' B mb ob po (d_ state sign ol.eR m)/\Kp (km B mb w) w w':=by
 obtain⟨a7,a8⟩:=hz;have a3:=aj.eR
 go_enter func167,ntmps167
 go_wp2_with fail
 go_loopw [6] (λi wr=>∃(k:Nat) (G:Ma),i= .int .i64 k/\k<=ol.eR.length/\Hid (d_ state sign ol.eR m=d_ state sign (ol.eR.drop k) G)/\Mm wr B mb ob po G/\G.s.Ok/\G.q.length<=m.q.length+480*k/\G.out.length<=m.out.length+480*k/\Kp (km B mb w) w wr) (λi _=>ol.eR.length-(intOf i).toNat)
 case atStart=>exact⟨0,m,rfl,aG _,af rfl,h,hs,aC _,aC _,Kp.refl _ _⟩
 case round=>
  obtain⟨k,G,rfl,hk,U,Y,O,a5,a6,KW⟩:=hrel;have J:=h.pl KW hp
  have aS:B<=wr.heap.size:=by have:=KW.size;omega
  obtain⟨qv,ov,ad,_⟩:=id Y;have cp:=ad.kb;clear ad
  by_cases aa:k<ol.eR.length
  ·have aO:(k:Int)<(ol.eR.length:Int):=by omega
   obtain⟨D,F⟩:∃s,ol.eR[k]? =some s:=⟨_,ar aa⟩
   obtain⟨g,cap,ac,base,c4,Z,I⟩:=J.bl F;have a0:=Z 0 (by omega);have a1:=Z 1 (by omega);have a2:=Z 2 (by omega);simp only[gh,gq,l5]at a0 a1 a2
   have ed:ol.eR.drop k=D::ol.eR.drop (k+1):=by
    rw[eZ aa];congr 1;exact(aJ.1 F).2
   have ap:=aj.rY D (aM F);obtain⟨Wh,Ku,am⟩:=bn I;subst am;have KB:Kp (λ_=>False) wr (wr.alloc (.cells #[.int .i64 D.state,.int .u8 D.sign,.slice Wh D.bD.length Ku] 282)):=(Kp.refl _ _).alloc _;have KM:=Km.trans KW (KB.km (B:=B) (mb:=mb));have MB:=Y.still KB
   have E:((D.state==state)&&(D.sign==sign))=false->d_ state sign ol.eR m=d_ state sign (ol.eR.drop (k+1)) G:=λq=>by
    rw[U.out,ed];simp only[d_];rw[q];rfl
   cases q1:D.state==state with
   |false=>
    have X:=af (E (by rw[q1];rfl));clear ed U F Z E I J;go_wp2
    go_roundw
    case rel=>exact⟨k+1,G,by go_num,by omega,X,MB,O,by omega,by omega,KM⟩
    case measure=>simp[intOf];omega
   |true=>?_
   cases q2:D.sign==sign with
   |false=>
    have X:=af (E (by rw[q2];simp));clear ed U F Z E I J;go_wp2
    go_roundw
    case rel=>exact⟨k+1,G,by go_num,by omega,X,MB,O,by omega,by omega,KM⟩
    case measure=>simp[intOf];omega
   |true=>?_
   have X:=af (U.out.trans (show _=d_ state sign (ol.eR.drop (k+1)) (dF D.bD G)by rw[ed];simp only[d_];rw[q1,q2];rfl));have N1:=Dx D.bD G;have aI:=ql D.bD O;have WY:=I.alloc (.cells #[.int .i64 D.state,.int .u8 D.sign,.slice Wh D.bD.length Ku] 282);have E1:=af (NZ (wr.alloc (.cells #[.int .i64 D.state,.int .u8 D.sign,.slice Wh D.bD.length Ku] 282)) B mb ob po G D.bD _ base WY MB O ap.2 (by have:=KB.size;omega) (by omega) (by omega) (by omega));have HK:=af KM;clear ed U F Z E I J WY KB KM MB
   go_wp2_with fail
   refine b9 E1 ?_;rintro x w2 ⟨rfl,M2,K2⟩;have K3:=Km.trans HK.out K2;clear E1 K2 HK a0 a1 a2 c4 cp;go_wp2
   go_roundw
   case rel=>exact⟨k+1,_,by go_num,by omega,X,M2,aI,by omega,by omega,K3⟩
   case measure=>simp[intOf];omega
  have a4:¬(k:Int)<(ol.eR.length:Int):=by omega
  have X:=af (U.out.trans (show _=G by rw[c_ (by omega)];rfl));obtain⟨ao,cap,c4⟩:=J.WV;clear U;go_wp2
  go_end0
  rw[X.out];exact⟨rfl,Y,KW⟩
end
namespace Ch
theorem A3{t:ByteArray}{lo:Int}(D:48<=lo){r:Bool×Ac×Nat}(E:r.2.1.Ok)(h:(mP t lo r).1=true):(mP t lo r).2.1.Ok:=by
 grind[mP,iw,Ac.Ok]
theorem Q8{t:ByteArray}{p:Nat}{a:Ac}(G:a.digit=0)(h:(act t p a).1=true):(act t p a).2.1.Ok:=by
 have D:(jn t p a).2.1.Ok:=by unfold jn Ac.Ok;simp[G]
 have E:(j9 t p a).2.1.Ok:=by unfold j9 Ac.Ok;simp[G]
 unfold act at*
 split
 ·omega
 rename_i I;rw[ay I]at h
 split
 ·rename_i F
  rw[aq F]at h;exact A3 (by omega) D h
 rename_i F;rw[ay F]at h
 split
 ·rename_i J
  rw[aq J]at h;exact A3 (by omega) E h
 simp_all
theorem Kv{t:ByteArray}{cl:Int}:∀(n p:Nat) (l:List Ac),p<=t.size->l.length<=p->(∀a∈l,a.Ok)->(iP t cl n p l).2.1.length<=t.size/\∀a∈(iP t cl n p l).2.1,a.Ok:=by
 intro n
 induction n with
 |zero=>grind[iP]
 |succ n G=>?_
 intro p l F J E;simp only[iP]
 split
 ·exact⟨by simp only;omega,E⟩
 split
 ·rename_i q
  have I:=xM q;refine G _ _ (pY F 0 0) (by simp;omega) ?_;intro a D
  rcases cB.1 D with D|D
  ·exact E a D
  simp at D;subst D;exact Q8 rfl q
 simp
theorem Dy{t:ByteArray}{cl:Int}{p:Nat}(D:p<=t.size):(bD t cl p).2.1.length<=t.size/\∀a∈(bD t cl p).2.1,a.Ok:=
 Kv _ _ _ D (aG _) (by simp)
structure Ri(t:ByteArray)(r:Rs):Prop where
 up:Up r.ai
 j_:∀x∈r.cW,x.bD.length<=t.size/\∀a∈x.bD,a.Ok
 rY:∀x∈r.eR,x.bD.length<=t.size/\∀a∈x.bD,a.Ok
theorem Up.push{ss:List St}(h:Up ss){s:St}(E: -1<=s.parent)(F:s.parent<ss.length):Up (ss++[s]):=by
 intro k x D
 rcases jA k ss.length with q|q
 ·rw[nU q]at D;exact h k x D
 grind
theorem Up.mark{ss:List St}(h:Up ss)(p:Int):Up (bU p ss):=by
 unfold bU
 split
 ·split
  ·rename_i k _ s hs
   split
   ·intro j x D
    by_cases e:k=j
    ·subst e
     have E:=(aJ.1 hs).1;rw[jF E]at D;simp at D;subst D;exact h k s hs
    rw[ku e]at D;exact h j x D
   omega
  omega
 omega
theorem Am{t:ByteArray}{r:Rs}(D:Int)(h:Ri t r):Ri t (transition t D r).2/\(transition t D r).2.ai=r.ai:=by
 unfold transition
 split
 ·rename_i U
  have O:r.pos+1<t.size:=by
   grind[cY,mF,ez,dS]
  have G:=sf (t:=t) (p:=r.pos+1+1) ⟨0,0,0⟩ (by omega);generalize guard t (r.pos+1+1) ⟨0,0,0⟩=F at*;have J:=Dy (t:=t) (cl:=62) (p:=F.2.2) G.2;generalize bD t 62 F.2.2=I at*
  split
  ·split
   ·refine⟨⟨h.up,?_,h.rY⟩,rfl⟩
    intro x E
    rcases cB.1 E with E|E
    ·exact h.j_ x E
    simp_all
   exact⟨⟨h.up,h.j_,h.rY⟩,rfl⟩
  exact⟨⟨h.up,h.j_,h.rY⟩,rfl⟩
 exact⟨⟨h.up,h.j_,h.rY⟩,rfl⟩
theorem N2{t:ByteArray}{r:Rs}(D:Int)(G:r.pos<t.size)(h:Ri t r):Ri t (block t D r).2/\(block t D r).2.ai=r.ai:=by
 have F:=Dy (t:=t) (cl:=59) (p:=r.pos+1) (by omega);unfold block
 split
 ·refine⟨⟨h.up,h.j_,?_⟩,rfl⟩
  intro x E
  rcases cB.1 E with E|E
  ·exact h.rY x E
  simp_all
 exact⟨⟨h.up,h.j_,h.rY⟩,rfl⟩
theorem Ci{t:ByteArray}{r:Rs}(op parent:Int)(D: -1<=parent)(E:parent<r.ai.length)(h:Ri t r):Ri t (bh t op parent r).2/\r.ai.length<=(bh t op parent r).2.ai.length/\
 ((bh t op parent r).1=true->r.ai.length<(bh t op parent r).2.ai.length):=by
 unfold bh
 split
 ·refine⟨⟨?_,h.j_,h.rY⟩,?_,λ_=>?_⟩
  ·exact Up.mark (Up.push h.up D E) parent
  ·grind[gQ]
  grind[gQ]
 simp_all
theorem A4{t:ByteArray}{r:Rs}{it:Int->Int->Rs->Bool×Rs}(Ga:∀a c s,c≠0->Ok t s->Ri t s->(0:Int)<=a->a<(s.ai.length:Int)->Ri t (it a c s).2/\s.ai.length<=(it a c s).2.ai.length)(parent:Int)(U:r.pos<t.size)(hk:Ok t r)(h:Ri t r)
 (G: -1<=parent) (I:parent<r.ai.length):Ri t (bL t it parent r).2/\r.ai.length<=(bL t it parent r).2.ai.length:=by
 obtain⟨⟨d1,d2,d3,d4⟩,J⟩:=hk;have O:=lk (t:=t) (r:={r with pos:=r.pos+1}) (ag t r.pos) parent ⟨⟨by simp only;omega,by simp only;omega,by simp only;omega,by simp only;omega⟩,by simp only;omega⟩;have hm:=Ci (t:=t) (r:={r with pos:=r.pos+1}) (ag t r.pos) parent G I ⟨h.up,h.j_,h.rY⟩;unfold bL;generalize bh t (ag t r.pos) parent {r with pos:=r.pos+1}=s at*;obtain⟨D,E,F⟩:=hm;simp only at E F
 split
 ·rename_i q
  have X:=F q
  split
  ·grind
  split
  ·grind
  split
  ·exact⟨⟨D.up,D.j_,D.rY⟩,E⟩
  simp_all
 simp_all
theorem Kw{t:ByteArray}:∀(n:Nat) (D cl:Int) (r:Rs),cl≠0->Ok t r->Ri t r->0<=D->D<r.ai.length->Ri t (aP t n D cl r).2/\r.ai.length<=(aP t n D cl r).2.ai.length:=by
 intro n
 induction n with
 |zero=>intro D cl r _ _ h _ _;exact⟨h,aC _⟩
 |succ n J=>?_
 intro D cl r E hk h G I;simp only[aP]
 split
 ·rename_i q
  have F:=jl (λa c s hc hs=>jZ n a c s hc hs) D (jM q) hk;grind[A4,aP,jM,bL]
 split
 ·rename_i q
  have F:=jk D (dy (by decide) q) hk;grind[Am,transition]
 split
 ·grind[cY,p_,N2,block]
 exact⟨⟨h.up,h.j_,h.rY⟩,aC _⟩
theorem N3(t:ByteArray):Ri t (chart t).2:=by
 have E:Ri t r0:=⟨by intro k s h;simp[r0]at h,by simp[r0],by simp[r0]⟩
 unfold chart
 split
 ·rename_i q
  have D:0<t.size:=by
   grind[cY]
  grind[A4,aP,Kw,r0,ud]
 omega
theorem wj:(⟨[],[],[]⟩:Ol).Ok:=⟨by intro k s h;simp at h,by simp,by simp,by simp,by simp,by simp⟩
theorem Jo(t:ByteArray):(read t).2.2.Ok:=by
 unfold read
 split
 ·exact wj
 rename_i q
 split
 ·split
  ·rename_i E
   have hi:=N3 t;obtain⟨⟨d1,d2,d3,d4⟩,D⟩:=Dr t;refine⟨hi.up,?_,?_,?_,λx hx=>⟨by have:=(hi.j_ x hx).1;omega,(hi.j_ x hx).2⟩,λx hx=>⟨by have:=(hi.rY x hx).1;omega,(hi.rY x hx).2⟩⟩
   ·grind[fa]
   ·grind
   grind
  exact wj
 exact wj
