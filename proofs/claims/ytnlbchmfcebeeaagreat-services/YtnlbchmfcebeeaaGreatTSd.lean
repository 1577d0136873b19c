import Derived.Test.YtnlbchmfcebeeaaGreatTHr
set_option maxHeartbeats 12800000
set_option maxRecDepth 100000
namespace Go.Proofs.YtnlbchmfcebeeaaGreat
open Go.Proofs.Tryz Ch
open Go.RowKit
open Value(int slice bool pointer string agg tuple)
open IntKind(i64)
open Obj(cells)
open Ending(returned)
open Operand(tmp)
open Or(inl inr)
namespace Ch
def CP(tail text:ByteArray):ByteArray:=(tail++text).extract ((tail++text).size-24) (tail++text).size
def i_(joined:Nat)(tail:ByteArray)(at_:Int):ByteArray×Int:=
 if(joined:Int)<at_ then(⟨#[]⟩,14)
 else if at_<(joined:Int)-(tail.size:Int)then(⟨#[]⟩,15)
 else if 8<tail.size-(at_-((joined:Int)-(tail.size:Int))).toNat then(tail.extract (at_-((joined:Int)-(tail.size:Int))).toNat ((at_-((joined:Int)-(tail.size:Int))).toNat+8),0)
 else(tail.extract (at_-((joined:Int)-(tail.size:Int))).toNat tail.size,0)
end Ch
theorem Fm w u D:Sem.run prog (convert 47 9 (slice (some ⟨w.heap.size,0,none⟩) u.size D)) (Lib.bytesWorld w 5 u)= .ok (string u) (Lib.bytesWorld w 5 u):=by
 have J:=VB.new w u;have E:=cL u;have:=lU (P:=prog) (Lib.bytesWorld w 5 u) 47 5 underlying47 underlying5 w.heap.size 0 u.size D (gW u) E (by
  intro i hi;have F:i<(gW u).length:=oQ;have G:=J.cell (au F);have I:(gW u).getD i 0=(gW u)[i]:=by rw[iO,au F];rfl
  rw[I,eG];exact G) 9 underlying9
 grind[Bj]
theorem MY w{sb}{jo}{joined:Nat}{C}{T}{tail}(hb:w.heap[sb]? =some (cells C T (0,0)))(h0:C[jo]? =some (int i64 joined))(h1:C[jo+1]? =some (string tail))text(ht:tail.size<=24)(hx:text.size<=10000000000)(hj:joined<=8000000000000000000):
 Calls prog 185 #[pointer (some ⟨sb,jo,none⟩),string text] w λx w'=>x=returned (tuple #[])/\
  w'.heap[sb]? =some (cells ((C.setIfInBounds jo (int i64 ((joined+text.size:Nat):Int))).setIfInBounds (jo+1) (string (CP tail text))) T (0,0))/\Kp (λk=>k=sb) w w':=by
 have x0:w.cell? ⟨sb,jo,none⟩=some (int i64 joined):=dG hb h0;have f0:w.frozen? ⟨sb,jo,none⟩=false:=by simp[World.frozen?,hb]
 have ej:((joined+text.size:Nat):Int)=(joined:Int)+(text.size:Int):=oQ;rw[ej];have Y:Kp _ _ (w.setCell ⟨sb,jo,none⟩ (int i64 ((joined:Int)+(text.size:Int)))):=(Kp.refl (λk=>k=sb) w).setCell (p:=⟨sb,jo,none⟩) (λ_=>rfl) _;have I:(w.setCell ⟨sb,jo,none⟩ (int i64 ((joined:Int)+(text.size:Int)))).heap[sb]? =_:=ar _ hb;have c1:(C.setIfInBounds jo (int i64 ((joined:Int)+(text.size:Int))))[jo+1]? =some (string tail):=by rw[n5 oQ];exact h1
 generalize C.setIfInBounds jo (int i64 ((joined:Int)+(text.size:Int)))=C1 at*;generalize D:CP tail text=U;unfold CP at D;go_in;go_upto_region 1 with fail;generalize w.setCell ⟨sb,jo,none⟩ (int i64 ((joined:Int)+(text.size:Int)))=F at*;have x1:F.cell? ⟨sb,jo+1,none⟩=some (string tail):=dG I c1;have X:=λw'=>my (P:=prog) w' tail text oQ;have G:(tail++text).size=tail.size+text.size:=jN;generalize tail++text=all at*;have ad:=Lib.run_convert_string_bytes (P:=prog) F 9 47 5 U underlying9 underlying47 underlying5;have aa:=Fm F U (grownCap F U.size 0 5);have KB:=CM F 5 U;have E:=KB.at_ I (λx=>x);generalize grownCap F U.size 0 5=cp at*;generalize Lib.bytesWorld F 5 U=O at*;have x2:O.cell? ⟨sb,jo+1,none⟩=some (string tail):=dG E c1;have f2:O.frozen? ⟨sb,jo+1,none⟩=false:=by simp[World.frozen?,E]
 have R:(O.setCell ⟨sb,jo+1,none⟩ (string U)).heap[sb]? =_:=ar _ E;have Z:Kp _ _ (O.setCell ⟨sb,jo+1,none⟩ (string U)):=((Y.trans' KB (λi _ x=>x.elim)).setCell (p:=⟨sb,jo+1,none⟩) (λ_=>rfl) _)
 have J:=bw R Z;by_cases ab:24<all.size
 ·rw[G]at D;have aj:(tail.size:Int)+(text.size:Int)-24<=(tail.size:Int)+(text.size:Int):=oQ;have am:(0:Int)<=(tail.size:Int)+(text.size:Int)-24:=oQ;have Q:(24:Int)<(tail.size:Int)+(text.size:Int):=oQ;have ao:((tail.size:Int)+(text.size:Int)-24).toNat=tail.size+text.size-24:=oQ;go_wp2;go_end0
  exact⟨rfl,J.1,J.2⟩
 have Q:¬(24:Int)<(tail.size:Int)+(text.size:Int):=oQ;have hf:all.size-24=0:=oQ;rw[hf,G]at D;go_wp2;go_end0
 exact⟨rfl,J.1,J.2⟩
theorem MZ w{sb}{jo}{joined:Nat}{C}{T}{tail}(hb:w.heap[sb]? =some (cells C T (0,0)))(R:C[jo]? =some (int i64 joined))(U:C[jo+1]? =some (string tail))at_(ht:tail.size<=24)(Y:tail.size<=joined)(Z:joined<=8000000000000000000):
 Calls prog 189 #[pointer (some ⟨sb,jo,none⟩),int i64 at_] w λx w'=>x=returned (tuple #[string (i_ joined tail at_).1,int i64 (i_ joined tail at_).2])/\Kp bA w w':=by
 have x0:w.cell? ⟨sb,jo,none⟩=some (int i64 joined):=dG hb R;have E:=bw hb U;by_cases G:(joined:Int)<at_
 ·have D:i_ joined tail at_=(⟨#[]⟩,14):=by unfold i_;rw[aq G]
  rw[D];go_in;go_wp2;go_ret2;exact⟨rfl,Kp.refl _ _⟩
 by_cases J:at_<(joined:Int)-(tail.size:Int)
 ·have D:i_ joined tail at_=(⟨#[]⟩,15):=by unfold i_;rw[ax G,aq J]
  rw[D];have x1:w.cell? ⟨sb,jo+1,none⟩=some (string tail):=dG E.1 E.2;go_in;go_upto_region 3 with fail;go_quiet (fail);rename_i nq;have F:=(Kp.refl bA w).drewN nq;go_wp2;go_ret2;exact⟨rfl,F⟩
 obtain⟨k,hk⟩:∃k:Nat,at_-((joined:Int)-(tail.size:Int))=k:=⟨(at_-((joined:Int)-(tail.size:Int))).toNat,oQ⟩
 have X:k<=tail.size:=oQ;by_cases O:8<tail.size-k
 ·have D:i_ joined tail at_=(tail.extract k (k+8),0):=by unfold i_;rw[ax G,ax J,hk];simp[O]
  rw[D];have x1:w.cell? ⟨sb,jo+1,none⟩=some (string tail):=dG E.1 E.2;have Q:=ag (show(tail.extract k tail.size).extract 0 8=tail.extract k (k+8)by
   apply lZ;simp[ByteArray.data_extract,Array.extract_extract];congr 1;omega)
  have I:(tail.extract k tail.size).size=tail.size-k:=by simp[ByteArray.size_extract]
  go_in;go_upto_region 3 with fail;go_quiet (fail);rename_i nq;have F:=(Kp.refl bA w).drewN nq;have x1:(w.drewN nq).cell? _=_:=x1;go_wp2;go_ret2;exact⟨by rw[<-Q];rfl,F⟩
 have D:i_ joined tail at_=(tail.extract k tail.size,0):=by unfold i_;rw[ax G,ax J,hk];simp[O]
 rw[D];have x1:w.cell? ⟨sb,jo+1,none⟩=some (string tail):=dG E.1 E.2;have I:(tail.extract k tail.size).size=tail.size-k:=by simp[ByteArray.size_extract]
 go_in;go_upto_region 3 with fail;go_quiet (fail);rename_i nq;have F:=(Kp.refl bA w).drewN nq;have x1:(w.drewN nq).cell? _=_:=x1;go_wp2;go_ret2;exact⟨rfl,F⟩
def putAt(a:Array Value)(D:Nat)(E:List Value):Array Value:=(a.toList.take D++E++a.toList.drop (D+E.length)).toArray
theorem UI b o j:(⟨b,o,none⟩:Addr).add j=⟨b,o+j,none⟩:=by
 unfold Addr.add;split<;>simp_all
theorem wW{P}g D t:∀ I i E w,w.heap[g]? =some (cells E t (0,0))->D+i+I.length<=E.size->(∀v∈I,v.oneCell'=true)->
 (storeCells ⟨g,D,none⟩ I i).run P w= .ok () (w.setRow g (putAt E (D+i) I)):=by
 intro I;induction I with
 |nil=>
  intro i E w G X Q;have e:putAt E (D+i) []=E:=by simp[putAt]
  rw[e];have:=run_storeCells_from (P:=P) g t [] E.size E w G dy dy;simpa[storeCells,List.take_of_length_le]using this
 |cons v rest U=>?_
 intro i E w G X Q;simp only[e_]at X;have hi:D+i<E.size:=oQ;have F:w.cell? ⟨g,D+i,none⟩=some E[D+i]:=by simp[World.cell?,G,hi]
 have J:w.frozen? ⟨g,D+i,none⟩=false:=by simp[World.frozen?,G]
 have eK:(store ((⟨g,D,none⟩:Addr).add i) v).run P w= .ok () (w.setRow g (E.setIfInBounds (D+i) v)):=by
  rw[UI,run_store P w _ v _ (Q v dy),F];simp[J,setCell_eq_setRow w g (D+i) E t (0,0) v G]
 have Y:=U (i+1) (E.setIfInBounds (D+i) v) (w.setRow g (E.setIfInBounds (D+i) v)) (an w g E _ t _ G) il (λx hx=>Q x (by simp[hx]));simp only[storeCells,kQ,eK,kR,Y,setRow_setRow];congr 2;unfold putAt;congr 1;apply f_;intro k;simp only[Array.toList_setIfInBounds,List.getElem?_append,List.length_take,j_,Array.length_toList,ix,e_,List.getElem?_take,List.getElem?_drop,List.getElem?_set];by_cases hk:k<D+i
 ·simp[show k<D+(i+1)by omega,show¬D+i=k by omega,hk,show k<E.size by omega,show k<min (D+i) E.size by omega,show k<min (D+i) E.size+(rest.length+1)by omega,show k<min (D+(i+1)) E.size by omega,show k<min (D+(i+1)) E.size+rest.length by omega]
 by_cases R:k=D+i
 ·subst R;simp[show min (D+(i+1)) E.size=D+i+1 by omega,show min (D+i) E.size=D+i by omega,hi];intro h;omega
 have e1:min (D+(i+1)) E.size=D+i+1:=oQ;have e2:min (D+i) E.size=D+i:=oQ;rw[e1,e2];simp only[show¬k<D+i+1 by omega,show¬k<D+i by omega,bf];by_cases O:k<D+i+1+rest.length
 ·simp only[O,show k<D+i+(rest.length+1)by omega,aQ];rw[show k-(D+i)=(k-(D+i+1))+1 by omega,ir]
 simp only[O,show¬k<D+i+(rest.length+1)by omega,bf];simp[show D+(i+1)+rest.length+(k-(D+i+1+rest.length))=k by omega,show D+i+(rest.length+1)+(k-(D+i+(rest.length+1)))=k by omega];intro h;omega
theorem yO{P}w g D t ty E l(I:w.heap[g]? =some (cells E t (0,0)))(hi:(P.info? ty).map (·.size)=some l.length)(J:D+l.length<=E.size)(G:∀v∈l,v.oneCell'=true):
 (storeVar ty ⟨g,D,none⟩ (agg l.toArray)).run P w= .ok () (w.setRow g (putAt E D l)):=by
 have:=wW (P:=P) g D t l 0 E w I oQ G;cases F:P.info? ty with
 |none=>simp_all
 |some i=>?_
 have hs:l.length=i.size:=by simp[F]at hi;omega
 simp[storeVar,sizeOf,typeInfo,F,Value.cells,hs,this]
theorem oO{P}{o:Oper}{a}{w}{K}{Q}ty x y(J:o.op= .store ty x y)g D l(O:a.eval x= pointer (some ⟨g,D,none⟩))(R:a.eval y= agg l.toArray)t E(I:w.heap[g]? =some (cells E t (0,0)))(hi:(P.info? ty).map (·.size)=some l.length)(F:D+l.length<=E.size)(G:∀v∈l,v.oneCell'=true)(h:K (a.put o.dst undef) (w.setRow g (putAt E D l))):o.wp P a w K Q:=by
 unfold Oper.wp execOp;simp only[J,O,R,Instr.storeAt,Instr.sureAddr,kQ,np,kR,yO w g D t ty E l I hi F G];exact h
theorem jw{P G rest o a w Q}(I:o.guard=none)ty x y(R:o.op= .store ty x y)g D l(U:a.eval x= pointer (some ⟨g,D,none⟩))(X:a.eval y= agg l.toArray)t E(O:w.heap[g]? =some (cells E t (0,0)))(hi:(P.info? ty).map (·.size)=some l.length)(F:D+l.length<=E.size)(J:∀v∈l,v.oneCell'=true)(h:wpList P G Q rest (a.put o.dst undef) (w.setRow g (putAt E D l))):wpList P G Q (o::rest) a w:=
 wpList_plain I λ_ hK=>oO ty x y R g D l U X t E O hi F J (hK _ _ h)
section
variable {α:Type} (f:α->List Value) (n:Nat)
theorem tV:∀(l:List α),(∀a∈l,(f a).length=n)->(l.flatMap f).length=l.length*n:=by
 intro l;induction l with
 |nil=>simp
 |cons a l D=>?_
 grind
theorem JE:∀(l:List α) u a b j D,(∀a∈l,(f a).length=n)->l[u]? =some a->j+D.length<=n->f b=(f a).take j++D++(f a).drop (j+D.length)->
 (l.flatMap f).take (u*n+j)++D++(l.flatMap f).drop (u*n+j+D.length)=(l.set u b).flatMap f:=by
 intro l;induction l with
 |nil=>intro u a b j D E hu G hb;simp at hu
 |cons x l F=>?_
 intro u a b j D E hu G hb;have J:=E x dy;cases u with
 |zero=>
  simp at hu;subst hu;simp only[qw,List.set_cons_zero,Nat.zero_mul,eG];rw[hb,List.take_append_of_le_length oQ,List.drop_append_of_le_length oQ];simp[List.append_assoc]
 |succ u=>?_
 have I:=F u a b j D (λy hy=>E y (by simp[hy])) (cX hu) G hb;simp only[qw,List.set_cons_succ];rw[<-I,Nat.succ_mul,show u*n+n+j=(f x).length+(u*n+j)by omega,List.take_length_add_append,show(f x).length+(u*n+j)+D.length=(f x).length+(u*n+j+D.length)by omega,List.drop_length_add_append];simp[List.append_assoc]
theorem zW(l:List α)u a b j D(F:∀a∈l,(f a).length=n)(hu:l[u]? =some a)(E:j+D.length<=n)(hb:f b=(f a).take j++D++(f a).drop (j+D.length)):
 putAt (l.flatMap f).toArray (u*n+j) D=((l.set u b).flatMap f).toArray:=by
 grind[putAt,JE]
theorem tW(l:List α)u a b j v(D:∀a∈l,(f a).length=n)(hu:l[u]? =some a)(G:j<n)(hb:f b=(f a).set j v):
 (l.flatMap f).set (u*n+j) v=(l.set u b).flatMap f:=by
 have F:=D a (aP hu);have E:u*n+j<(l.flatMap f).length:=by
  rw[tV f n l D];have:=(aM.1 hu).1
  calc u*n+j<u*n+n:=oQ
   _=(u+1)*n:=by rw[Nat.succ_mul]
   _<=l.length*n:=Nat.mul_le_mul_right _ oQ
 rw[<-JE f n l u a b j [v] D hu il (by rw[hb,List.set_eq_take_append_cons_drop,aq oQ];simp)];rw[List.set_eq_take_append_cons_drop,aq E];simp
theorem kg(l:List α)u a j(D:∀a∈l,(f a).length=n)(hu:l[u]? =some a)(E:j<n):(l.flatMap f)[u*n+j]? =(f a)[j]?:=by
 induction l generalizing u with
 |nil=>simp_all
 |cons x l G=>?_
 have F:=D x dy;rw[qw];cases u with
 |zero=>grind
 |succ u=>?_
 grind
end
theorem vP{w:World}{B}{g}{D}{n}{size}{e}{G}(h:w.ownsRow B e size (slice (some ⟨g,0,none⟩) n D) n G)i v:
 (w.setCell ⟨g,i,none⟩ v).ownsRow B e size (slice (some ⟨g,0,none⟩) n D) n (G.set i v):=by
 refine⟨by rw[j_];exact h.1,?_⟩;rcases h.2 with⟨x,_⟩|⟨U,F,E,e1,hb,R,I,J,O,Q⟩
 ·simp_all
 simp only[aH,bE,ei]at e1;obtain⟨⟨rfl,_⟩,_,rfl⟩:=e1;exact inr ⟨g,D,E.setIfInBounds i v,rfl,hb,ar _ R,I,J,by simpa using O,by rw[Array.toList_setIfInBounds,List.take_set,Q]⟩
namespace Ch
def zX:Sd:=⟨List.replicate 16 false,List.replicate 16 0,⟨#[]⟩,0,0,0⟩
def fy(l:List Vr):Sd:=match l.getLast? with|some v=>v.now|none=>zX
def tY(l:List Vr)(n:Int):List Vr×Bool:=match l.findIdx? (λv=>(v.num:Int)==n)with
 |some k=>(l.modify k (λv=>{v with pins:=v.pins+1}),true)
 |none=>(l,false)
theorem JF{l i v n}(D:l[i]? =some v)(E:(v.num:Int)=n)(h:∀j u,j<i->l[j]? =some u->¬(u.num:Int)=n):tY l n=(l.set i {v with pins:=v.pins+1},true):=by
 have⟨hi1,hi2⟩:=aM.1 D;have e:l.findIdx? (λv=>(v.num:Int)==n)=some i:=by
  rw[List.findIdx?_eq_some_iff_getElem];grind
 unfold tY;rw[e];simp only[mD,dV];apply f_;grind
theorem Fo{l n}(h:∀v∈l,¬(v.num:Int)=n):tY l n=(l,false):=by
 grind[tY]
def DO(l:List Vr)(i:Nat):List Value:=(l.take i).map (λv=>int i64 v.num)++List.replicate (l.length-i) (int i64 0)
theorem UJ l:(madeCells #[Value.int i64 0] l.length).toList=DO l 0:=by
 unfold DO;simp only[List.take_zero,List.map_nil,kT,Nat.sub_zero];apply f_;intro j;unfold madeCells;grind
theorem W4{l i}(h:i<l.length):(DO l i)[i]? =some (int i64 0):=by
 grind[DO]
theorem UK{l i v}(D:l[i]? =some v):(DO l i).set i (int i64 v.num)=DO l (i+1):=by
 have⟨hi,e⟩:=aM.1 D;unfold DO;rw[nW _ _ (by rw[fN,List.length_take];omega),show l.take (i+1)=l.take i++[v]by rw[<-e,List.take_append_getElem hi]];simp only[nZ,nY,List.map_nil,jL,List.singleton_append,fN,List.length_take,show min i l.length=i by omega,n_];rw[show l.length-i=(l.length-(i+1))+1 by omega,List.replicate_succ,List.set_cons_zero]
theorem Q1 l:DO l l.length=l.map (λv=>int i64 v.num):=by unfold DO;simp
end Ch
theorem Ov{v}(h:v.now.Wf)(n:Nat):vrL {v with pins:=n}=(vrL v).set 37 (int i64 n):=by
 simp_all[vrL,dp]
theorem W5{l v}(h:l[l.length-1]? =some v):fy l=v.now:=by
 grind[fy]
theorem Ow{v}:∀j u,(aN v.now)[j]? =some u->(vrL v)[1+j]? =some u:=by
 grind[vrL]
theorem CQ w{B}{sb}{so}{C}{T}{made}{kept}{kv}(h:xQ w B sb so C T made kept kv)(hk:0<kept.length)(aj:kept.length<=1000):
 Calls prog 259 #[pointer (some ⟨sb,so,none⟩)] w λx w'=>x=returned (agg (aN (fy kept)).toArray)/\Kp bA w w':=by
 have⟨ds,hds,iT⟩:=g7;obtain⟨v,hv⟩:∃v,kept[kept.length-1]? =some v:=⟨_,au oQ⟩
 have HL:=ag (W5 hv);have G:=h.wf v (aP hv);have K1:=kG w (cells cB 95);have E:=ak w (cells cB 95);have U:=h.aw K1;have⟨g,cap,xx⟩:=U.rowAt hk;have aa:=U.cells xx hv;have O:∀j u,(aN v.now)[j]? =some u->(w.alloc (cells cB 95)).cell? ⟨g,((kept.length:Int)-1).toNat*38+1+j,none⟩=some u:=by
  intro j u hj;have:=aa (1+j) u (Ow j u hj);rw[show((kept.length:Int)-1).toNat=kept.length-1 by omega];rw[oe];exact this
 have x1:=U.x1;rw[xx]at x1;have sI:(prog.info? 95).map (·.size)=some (aN v.now).length:=by rw[dp G];exact dh
 have R:=iD G;have sS:=jc G;have sO:=mK v.now;have am:¬(kept.length:Int)=0:=oQ;have ab:g≠w.heap.size:=by
  intro e;have Q:=U.row;rw[xx]at Q;have⟨cur,hc⟩:=bC Q (k:=g) rfl;rw[e,E]at hc;simp at hc
 have Z:w.heap[g]? ≠none:=by
  have Q:=h.row;rw[xx]at Q;have⟨cur,hc⟩:=bC Q (k:=g) rfl;rw[hc];simp
 have HZ:=ag (show sb≠w.heap.size by have:=aR h.cj;omega);have HH:=bw K1 Z;generalize Pr:(aN v.now)=F at*;have Vm:=ag Pr;go_in;go_upto_region 1 with fail;generalize w.alloc (cells cB 95)=I at*;go_upto_region 3 with fail;have D:I.drew.cell? ⟨sb,so+1,none⟩=some (slice (some ⟨g,0,none⟩) kept.length cap)/\(∀j u,F[j]? =some u->I.drew.cell? ⟨g,((kept.length:Int)-1).toNat*38+1+j,none⟩=some u):=⟨x1,O⟩
 have hw:IntKind.i64.wrap ((kept.length:Int)-1)=(kept.length:Int)-1:=by rw[nX];omega
 have X:(1:Int)<=kept.length:=oQ;have Y:¬(kept.length:Int)<=(kept.length:Int)-1:=oQ;refine aY (λw'=>w'.cell? ⟨sb,so+1,none⟩=some (slice (some ⟨g,0,none⟩) kept.length cap)/\(∀j u,F[j]? =some u->w'.cell? ⟨g,((kept.length:Int)-1).toNat*38+1+j,none⟩=some u)) bZ ?_;refine bR 0 10 (pointer (some ⟨sb,so,none⟩)) D ?_;refine bR 1 11 (pointer (some ⟨sb,so,none⟩)) D ?_;refine bR 2 12 (pointer (some ⟨sb,so+1,none⟩)) D ?_;refine fh 3 13 (slice (some ⟨g,0,none⟩) kept.length cap) rfl (λw' hS=>by simp[execOp,Act.eval,go_sem,hS.1]) D ?_;refine bR 4 14 (pointer (some ⟨sb,so,none⟩)) D ?_;refine bR 5 15 (pointer (some ⟨sb,so,none⟩)) D ?_;refine bR 6 16 (pointer (some ⟨sb,so+1,none⟩)) D ?_;refine fh 7 17 (slice (some ⟨g,0,none⟩) kept.length cap) rfl (λw' hS=>by simp[execOp,Act.eval,go_sem,hS.1]) D ?_;refine bR 8 18 (int i64 kept.length) D ?_;refine fh 9 19 (int i64 ((kept.length:Int)-1)) rfl (λw' _=>by simp[execOp,Act.eval,go_sem,hw]) D ?_;refine fh 10 20 (pointer (some ⟨g,((kept.length:Int)-1).toNat*38,none⟩)) rfl (λw' _=>by simp[execOp,Act.eval,go_sem,X,Y]) D ?_;refine bR 11 21 (pointer (some ⟨g,((kept.length:Int)-1).toNat*38+1,none⟩)) D ?_;refine fh 12 22 (agg F.toArray) rfl (λw' hS=>eT 95 (tmp 21) rfl g (((kept.length:Int)-1).toNat*38+1) rfl F ds hS.2 hds iT sI) D ?_;have KF:Kp _ _ (I.drew.setRow w.heap.size F.toArray):=(HH.1.drewN 1).setRow (λx=>oQ) _;have lH:=an I.drew w.heap.size cB F.toArray 95 (0,0) E;have J:∀k i,k≠w.heap.size->(I.drew.setRow w.heap.size F.toArray).cell? ⟨k,i,none⟩=I.drew.cell? ⟨k,i,none⟩:=by
  intro k i hk;unfold World.cell?;simp only;rw[cN _ _ _ _ hk]
 have ad:=HZ.out;refine cQ 13 bZ rfl rfl 95 (tmp 2) (tmp 22) rfl rfl w.heap.size F.toArray rfl rfl 95 cB E R (by rw[sS];rfl) sO ⟨by rw[J _ _ ad];exact D.1,λj u hj=>by rw[J _ _ ab];exact D.2 j u hj⟩ ?_;refine bG bZ (bH ?_) _;go_wp;refine uY lH hds iT R ?_;rw[HL,Vm];exact⟨rfl,KF⟩
theorem JG w{B}{sb}{so}{C}{T}{made}{kept}{kv}(h:xQ w B sb so C T made kept kv)(hk:kept.length<=1000):
 Calls prog 138 #[pointer (some ⟨sb,so,none⟩)] w λx w'=>x=returned (slice (some ⟨w.heap.size,0,none⟩) kept.length kept.length)/\w'.ownsRow w.heap.size 3 1 (slice (some ⟨w.heap.size,0,none⟩) kept.length kept.length) kept.length (kept.map λv=>int i64 v.num)/\Kp bA w w':=by
 have⟨i0,hi,hz0,hz1,hz2⟩:=cr nI;have⟨ao,cap,xx⟩:=bp h.row;have x1:=h.x1;rw[xx]at x1;have Y:=ag h;go_in;go_wp2_with (at_make;refine wpList_make_full w rfl (tmp 9) (tmp 9) 38 rfl w.heap.size 3 i0 (int i64 0) 1 underlying38 hi hz0 hz1 i64 i64 kept.length kept.length kept.length rfl rfl rfl rfl ?c1 ?c2 (aC _) ?_)
 case c1=>rw[hz2];omega
 case c2=>unfold maxLen;omega
 intro O J g4;have Z:Kp bA w O:=(Kp.refl _ _).grown g4 (λi hi _=>by simp at hi);rw[UJ kept]at J;have aa:w.heap.size<O.heap.size:=(J.lt _ rfl).2;generalize hg:w.heap.size=g at*;go_wp;go_loopw [4] (λiv wr=>∃i:Nat,iv= int i64 i/\i<=kept.length/\wr.ownsRow g 3 1 (slice (some ⟨g,0,none⟩) kept.length kept.length) kept.length (DO kept i)/\Kp (λk=>k=g) O wr) (λiv _=>kept.length-(intOf iv).toNat)
 case atStart=>exact⟨0,rfl,aA _,J,Kp.refl _ _⟩
 case round=>
  obtain⟨i,rfl,ab,F,U⟩:=hrel;have R:=Z.trans' U (λi hi x=>oQ);by_cases D:i<kept.length
  ·have E:(i:Int)<kept.length:=oQ;have I:=Y.aw R;have⟨g2,cap2,S3⟩:=I.rowAt oQ;obtain⟨v,X⟩:∃v,kept[i]? =some v:=⟨_,au D⟩
   have y1:=I.x1;rw[S3]at y1;have y2:wr.cell? ⟨g2,i*38,none⟩=_:=I.cells S3 X 0 _ (yq v);have hc:=F.cellAt i oQ;rw[W4 D]at hc;have hf:wr.frozen? ⟨g,i,none⟩=false:=by
    have⟨cur,PT⟩:=bC F (k:=g) rfl;simp[World.frozen?,PT]
   have G:=vP F i (int i64 v.num);rw[UK X]at G;have K6:Kp _ _ (wr.setCell ⟨g,i,none⟩ (int i64 v.num)):=U.setCell (p:=⟨g,i,none⟩) (λ_=>rfl) _;have Q:=bw G K6;go_wp2;exact⟨⟨i+1,eb,oQ,Q.1,Q.2⟩,ew⟩
  have E:¬(i:Int)<kept.length:=oQ;obtain rfl:i=kept.length:=oQ;rw[Q1]at F;exact OH F R
theorem W6 w{B}{sb}{so}{C}{T}{made}{kept}{kv}(h:xQ w B sb so C T made kept kv)(hk:kept.length<=1000)n(hn:∀v∈kept,v.pins<=1000000000000000):
 Calls prog 227 #[pointer (some ⟨sb,so,none⟩),int i64 n] w λx w'=>x=returned (bool (tY kept n).2)/\xQ w' B sb so C T made (tY kept n).1 kv/\Kp (λk=>kv.ownBlock=some k) w w':=by
 have D:=bw h hn;clear h hn;go_in;go_wp;go_loopw [5] (λiv wr=>∃i:Nat,iv= int i64 i/\i<=kept.length/\wr=w/\Hid (∀j v,j<i->kept[j]? =some v->¬(v.num:Int)=n)) (λiv _=>kept.length-(intOf iv).toNat)
 case atStart=>exact⟨0,rfl,aA _,rfl,ag (λj v X=>oQ)⟩
 case round=>
  obtain⟨i,rfl,aj,rfl,J⟩:=hrel;have x1:=D.1.x1;by_cases aa:i<kept.length
  ·have R:(i:Int)<kept.length:=oQ;have⟨g,cap,xx⟩:=D.1.rowAt oQ;obtain⟨v,E⟩:∃v,kept[i]? =some v:=⟨_,au aa⟩
   rw[xx]at x1;have I:=D.1.wf v (aP E);have y0:wr.cell? ⟨g,i*38,none⟩=_:=D.1.cells xx E 0 _ (yq v);have am:=D.1.cells xx E 37 _ (BO I);have hp:=D.2 v (aP E);by_cases G:(v.num:Int)=n
   ·have ab:((v.num:Int)==n)=true:=by simp[G]
    have HQ:=ag G;have Z:=ag (JF E G J);have Y:=D.1.row;rw[xx]at Y;have hf:wr.frozen? ⟨g,i*38+37,none⟩=false:=by
     have⟨cur,PT⟩:=bC Y (k:=g) rfl;simp[World.frozen?,PT]
    have F:=vP Y (i*38+37) (int i64 ((v.pins:Int)+1));have ad:g≠sb:=by
     have:=D.1.S0;rw[xx]at this;intro e;subst e;exact this rfl
    have K6:Kp _ _ (wr.setCell ⟨g,i*38+37,none⟩ (int i64 ((v.pins:Int)+1))):=(Kp.refl (λk=>kv.ownBlock=some k) wr).setCell (p:=⟨g,i*38+37,none⟩) (λ_=>by rw[xx];rfl) _;have Q:=K6.at_ D.1.cj D.1.S0;have CO:xQ (wr.setCell ⟨g,i*38+37,none⟩ (int i64 ((v.pins:Int)+1))) B sb so C T made (kept.set i {v with pins:=v.pins+1}) kv:=by
     refine⟨Q,D.1.c0,D.1.c1,?_,?_,D.1.ne⟩
     ·rw[xx,j_];have e:=tW vrL 38 kept i v {v with pins:=v.pins+1} 37 (int i64 ((v.pins:Int)+1)) (λa O=>uA (D.1.wf a O)) E oQ (Ov I (v.pins+1));unfold jr at F⊢;rw[e]at F;exact F
     intro a O;rcases s6 O with O|rfl
     ·exact D.1.wf a O
     exact I
    have U:=bw CO K6;clear CO K6 Q F Y J G xx;go_wp2;go_ret;rw[Z];exact⟨rfl,U.1,U.2⟩
   have ab:((v.num:Int)==n)=false:=by simp[G]
   have U:=ag (show∀j u,j<i+1->kept[j]? =some u->¬(u.num:Int)=n by
    intro j u X hu;by_cases e:j=i
    ·subst e;rw[E]at hu;simp at hu;subst hu;exact G
    exact J j u oQ hu)
   clear J G E xx;go_wp2;exact⟨⟨i+1,eb,oQ,by first|rfl|trivial,U⟩,ew⟩
  have R:¬(i:Int)<kept.length:=oQ;obtain rfl:i=kept.length:=oQ;have⟨ao,cap,xx⟩:=bp D.1.row;rw[xx]at x1;have Z:=ag (Fo (λv E=>by
   obtain⟨j,X⟩:=List.mem_iff_getElem?.1 E;exact J j v (aM.1 X).1 X))
  clear J xx;go_wp2;go_ret;rw[Z];exact⟨rfl,D.1,Kp.refl _ _⟩
namespace Ch
def DP(made:Nat)(l:List Vr)(k:Nat)(v:Vr):List Vr:=nK made (l.set k {v with pins:=v.pins-1})
end Ch
section
variable (w:World) {B sb so:Nat} {C:Array Value} {T:TypeId} {made:Nat} {kept:List Vr} {kv:Value}
def Q8(w w':World)(B sb so:Nat)(C:Array Value)(T:TypeId)(kv:Value)(l:List Vr):Prop:=
 ∃D,w'.heap[sb]? =some (cells (C.setIfInBounds (so+1) D) T (0,0))/\w'.ownsRow B 261 38 D l.length (jr l)/\(∀k,D.ownBlock=some k->w.heap.size<=k)/\Kp (λk=>k=sb\/kv.ownBlock=some k) w w'
def xJ(kept:List Vr)(k:Nat)(v:Vr)(i:Nat):List Vr:=if i<=k then kept else kept.set k {v with pins:=v.pins-1}
theorem UL kept k v i:(xJ kept k v i).length=kept.length:=by unfold xJ;split<;>simp
def CR(k:Nat)(v:Vr)(i:Nat):Sd:=if i<=k then zX else v.now
theorem W7{kept k v i}:i≠k->(xJ kept k v i)[i]? =kept[i]?:=by
 grind[xJ]
theorem qs:zX.Wf:=⟨aV,aV⟩
theorem JH(h:xQ w 0 sb so C T made kept kv)(hk:kept.length<=1000)(bg:made<=1000000000000000)k v(hv:kept[k]? =some v)(hp:0<v.pins)(hd:∀j u,kept[j]? =some u->u.num=v.num->j=k)(hn:∀v∈kept,v.num<=1000000000000000/\v.pins<=1000000000000000):
 Calls prog 188 #[pointer (some ⟨sb,so,none⟩),int i64 v.num] w λx w'=>x=returned (agg (aN v.now).toArray)/\Q8 w w' 0 sb so C T kv (DP made kept k v):=by
 have⟨ds,hds,iT⟩:=g7;have ad:((w.alloc (cells cB 95)).alloc (cells cB 95)).heap[w.heap.size]? =some (cells cB 95):=by
  rw[cE _ _ _ dy];exact ak _ _
 have aj:((w.alloc (cells cB 95)).alloc (cells cB 95)).heap[w.heap.size+1]? =_:=jM w _ _;have K1:Kp bA w ((w.alloc (cells cB 95)).alloc (cells cB 95)):=((Kp.refl _ _).alloc _).alloc _;have h1:=h.aw K1;have be:=(aM.1 hv).1;have⟨g,cap,xx⟩:=h.rowAt oQ;have I:kv.ownBlock=some g:=by rw[xx];rfl
 have ba:=aR h.cj;have bb:g<w.heap.size:=by
  have⟨cur,hc⟩:=bC h.row I;exact aR hc
 have a2:sb≠g:=by intro e;subst e;exact h.S0 I
 have E:=h.wf v (aP hv);have sI:=iD E;have sS:=jc E;have sO:=mK v.now;have a8:(prog.info? 95).map (·.size)=some (aN v.now).length:=by rw[dp E];exact dh
 have bk:=hn v (aP hv);have J:=rP h hn hd K1 hv;have HR:=ag ad;go_in;go_upto_region 2 with fail;have a9:w.heap.size+2<=((w.alloc (cells cB 95)).alloc (cells cB 95)).heap.size:=dy;generalize (w.alloc (cells cB 95)).alloc (cells cB 95)=w1 at*;go_wp;go_loopw [6] (λiv wr=>∃i:Nat,iv= int i64 i/\i<=kept.length/\xQ wr 0 sb so C T made (xJ kept k v i) kv/\wr.heap[w.heap.size+1]? =some (cells (aN (CR k v i)).toArray 95 (0,0))/\Kp (λj=>j=g\/j=w.heap.size+1) w1 wr) (λiv _=>kept.length-(intOf iv).toNat)
 case atStart=>exact⟨0,rfl,aA _,by unfold xJ;rw[aq (aA _)];exact h1,by unfold CR;rw[aq (aA _)];exact aj,Kp.refl _ _⟩
 case round=>
  obtain⟨i,rfl,bc,D,G,KW⟩:=hrel;have x1:=D.x1;have aa:=UL kept k v i;by_cases a4:i<kept.length
  ·have ab:(i:Int)<kept.length:=oQ;rw[xx]at x1;by_cases O:i=k
   ·subst O;have e1:xJ kept i v i=kept:=by unfold xJ;rw[aq (aC _)]
    have e2:xJ kept i v (i+1)=kept.set i {v with pins:=v.pins-1}:=by unfold xJ;rw[ax oQ]
    have e3:CR i v i=zX:=by unfold CR;rw[aq (aC _)]
    have e4:CR i v (i+1)=v.now:=by unfold CR;rw[ax oQ]
    rw[e1]at D;rw[e3]at G;have y0:wr.cell? ⟨g,i*38,none⟩=_:=D.cells xx J.2.2.2.2 0 _ (yq v);have bo:=D.cells xx J.2.2.2.2 37 _ (BO E);have R:=D.row;rw[xx]at R;have hf:wr.frozen? ⟨g,i*38+37,none⟩=false:=by
     have⟨cur,PT⟩:=bC R (k:=g) rfl;simp[World.frozen?,PT]
    have Q:=vP R (i*38+37) (int i64 ((v.pins:Int)-1));have K6:Kp _ _ (wr.setCell ⟨g,i*38+37,none⟩ (int i64 ((v.pins:Int)-1))):=(Kp.refl (λj=>j=g) wr).setCell (p:=⟨g,i*38+37,none⟩) (λ_=>rfl) _;have a0:=K6.at_ D.cj a2;have ap:=K6.at_ G oQ;have ep:((v.pins-1:Nat):Int)=(v.pins:Int)-1:=oQ;have CO:xQ (wr.setCell ⟨g,i*38+37,none⟩ (int i64 ((v.pins:Int)-1))) 0 sb so C T made (kept.set i {v with pins:=v.pins-1}) kv:=by
     refine⟨a0,D.c0,D.c1,?_,?_,D.ne⟩
     ·rw[xx,j_];have e:=tW vrL 38 kept i v {v with pins:=v.pins-1} 37 (int i64 ((v.pins:Int)-1)) (λa ha=>uA (D.wf a ha)) J.2.2.2.2 oQ (by rw[<-ep];exact Ov E (v.pins-1));unfold jr at Q⊢;rw[e]at Q;exact Q
     intro a ha;rcases s6 ha with ha|rfl
     ·exact D.wf a ha
     exact E
    have K7:=KW.trans' K6 (λj _ x=>inl x);have x6:=CO.x1;rw[xx]at x6;have a1:∀j u,(aN v.now)[j]? =some u->(wr.setCell ⟨g,i*38+37,none⟩ (int i64 ((v.pins:Int)-1))).cell? ⟨g,i*38+1+j,none⟩=some u:=by
     intro j u hj;have a3:=Ow (v:={v with pins:=v.pins-1}) j u hj;have:=CO.cells (k:=i) (v:={v with pins:=v.pins-1}) (by rw[xx,j_]) (by rw[jO oQ]) (1+j) u a3;rw[oe];exact this
    have HN:=c_ CO ap K7;go_upto_region 7 with fail;generalize wr.setCell ⟨g,i*38+37,none⟩ (int i64 ((v.pins:Int)-1))=w6 at*;have Y:=HN.1;have X:Kp _ _ (w6.setRow (w.heap.size+1) (aN v.now).toArray):=(Kp.refl (λj=>j=w.heap.size+1) w6).setRow (λ_=>rfl) _;have aI:xQ (w6.setRow (w.heap.size+1) (aN v.now).toArray) 0 sb so C T made (kept.set i {v with pins:=v.pins-1}) kv:=
     ⟨X.at_ Y.cj oQ,Y.c0,Y.c1,X.owns Y.row (λj e x=>by rw[I]at e;simp at e;omega),Y.wf,Y.ne⟩
    have am:=an w6 (w.heap.size+1) _ (aN v.now).toArray 95 (0,0) HN.2.1;have RM:=HN.2.2.trans' X (λj _ x=>inr x);have aO:=HN.2.1;have F:=c_ aI am RM;generalize Pr:(aN v.now)=SL at*;have Vm:=ag Pr;go_wp2_with (first|refine bS rfl 95 (tmp 43) rfl g (i*38+1) rfl SL ds a1 hds iT a8 ?_|refine bJ SL.toArray aO sI (by rw[sS];rfl) sO ?_);exact⟨⟨i+1,eb,oQ,by rw[e2];exact F.1,by rw[e4,Vm];exact F.2.1,F.2.2⟩,ew⟩
   obtain⟨u,hu⟩:∃u,kept[i]? =some u:=⟨_,au a4⟩
   have aS:=(W7 (kept:=kept) (k:=k) (v:=v) O).trans hu;have y0:wr.cell? ⟨g,i*38,none⟩=_:=D.cells (by rw[aa];exact xx) aS 0 _ (yq u);have bi:((u.num:Int)==(v.num:Int))=false:=by
    have:u.num≠v.num:=λe=>O (J.2.2.1 i u hu e);simp;omega
   have e2:xJ kept k v (i+1)=xJ kept k v i:=by
    unfold xJ;by_cases h:i<=k
    ·rw[aq h,aq oQ]
    rw[ax h,ax oQ]
   have e4:CR k v (i+1)=CR k v i:=by
    unfold CR;by_cases h:i<=k
    ·rw[aq h,aq oQ]
    rw[ax h,ax oQ]
   have F:=c_ D G KW;have HE:=bw e2 e4;go_wp2;exact⟨⟨i+1,eb,oQ,by rw[HE.1];exact F.1,by rw[HE.2];exact F.2.1,F.2.2⟩,ew⟩
  have ab:¬(i:Int)<kept.length:=oQ;obtain rfl:i=kept.length:=oQ;rw[xx]at x1;have e1:xJ kept k v kept.length=kept.set k {v with pins:=v.pins-1}:=by unfold xJ;rw[ax oQ]
  have e3:CR k v kept.length=v.now:=by unfold CR;rw[ax oQ]
  rw[e1]at D;rw[e3]at G;have ET:=ag (It _ D (aA _) il oQ (by
   intro u hu;rcases s6 hu with hu|rfl
   ·exact J.2.1 u hu
   have:=J.2.1 v (aP hv);simp only;omega))
  have F:=bw G KW;have bm:=KW.size;go_wp;refine b9 ET ?_;rintro U ⟨rj,q1,q2,q3,q4⟩;have ao:=q4.at_ F.1 oQ;have a5:=HR.out;have Z:=q4.at_ (F.2.at_ a5 oQ) oQ;have KA:Kp (λj=>j=sb\/kv.ownBlock=some j) _ _:=((J.2.2.2.1.mono gM).trans' F.2 (λj hj x=>x.elim (λx=>inr (by rw[x];exact I)) (λx=>oQ))).trans' q4 (λj _ x=>inl x);have KB:=KA.setRow (g:=w.heap.size) (λx=>oQ) (aN v.now).toArray;have X:Kp _ _ (U.setRow w.heap.size (aN v.now).toArray):=(Kp.refl (λj=>j=w.heap.size) U).setRow (λ_=>rfl) _;have a6:=X.at_ q1 oQ;have a7:=X.owns q2 (λj e x=>by have:=q3 j e;omega);have lH:=an U w.heap.size _ (aN v.now).toArray 95 (0,0) Z;have HG:=fM a6 a7 (λj e=>bz (show w.heap.size<=wr.heap.size by omega) (q3 j e)) KB;generalize Pr:(aN v.now).toArray=SA at*;go_wp2_with (first|refine gV ao hds iT sI ?_|refine bJ SA Z sI (by rw[sS];rfl) sO ?_);refine uY lH hds iT sI ?_;exact⟨by rw[Pr],rj,HG.1,HG.2.1,HG.2.2.1,HG.2.2.2⟩
end
namespace Ch
structure Rp where
 err:Int
 mY:Int
 idx:Int
 next:Int
 st:As
 text:ByteArray
def eY:Rp:=⟨0,0,0,0,kJ,⟨#[]⟩⟩
def iC:Tk:=⟨0,⟨#[]⟩,0,false,0,0,zX,⟨#[]⟩,0,0⟩
def lQ(x:Sv)(s:Sd)(out:ByteArray):Sv:=
 {x with made:=x.made+1,kept:=nK (x.made+1) (x.kept++[⟨x.made,s,0⟩]),joined:=x.joined+out.size,tail:=CP x.tail out}
end Ch
def bU(r:Rp):Array Value:=#[int i64 r.err,int i64 r.mY,int i64 r.idx,int i64 r.next,string r.st.act,string r.st.b_,string r.st.tm,int i64 r.st.x,int i64 r.st.y,int i64 r.st.z,string r.text]
def Ky(t:Tk):List Value:=[int i64 t.kind,string t.events,int i64 t.at_,bool t.drawn,int i64 t.cD,int i64 t.ay]
def VC(t:Tk):List Value:=[string t.out,int i64 t.steps,int i64 t.pinned]
def lR(t:Tk):List Value:=Ky t++(aN t.now++VC t)
def dN(l:List Tk):List Value:=l.flatMap lR
theorem gE{t}(h:t.now.Wf):(lR t).length=45:=by simp[lR,Ky,VC,dp h]
theorem JI:(lR iC).toArray=Dq:=rfl
theorem oZ{t}(h:t.now.Wf)j:(lR t)[42+j]? =(VC t)[j]?:=by
 unfold lR;rw[iy (by simp[Ky];omega),iy (by simp[Ky,dp h];omega)];grind[Ky,dp]
theorem vQ{t t'}(h:t.now.Wf)(e1:Ky t'=Ky t)(e2:t'.now=t.now)j v(e3:VC t'=(VC t).set j v):lR t'=(lR t).set (42+j) v:=by
 unfold lR;grind[Ky,dp]
theorem vR{t t'}(e1:VC t'=VC t)(e2:t'.now=t.now)j(D:j<6)v(e3:Ky t'=(Ky t).set j v):lR t'=(lR t).set j v:=by
 grind[lR,Ky]
theorem Ox{t}:∀j u,(aN t.now)[j]? =some u->(lR t)[6+j]? =some u:=by
 intro j u h;unfold lR;grind[Ky]
theorem xK{t t'}(h:t.now.Wf)(D:t'.now.Wf)(e1:Ky t'=Ky t)(e2:VC t'=VC t):lR t'=(lR t).take 6++aN t'.now++(lR t).drop (6+(aN t'.now).length):=by
 simp_all[Ky,lR,dp]
theorem GO t:∀u∈lR t,u.oneCell'=true:=by
 intro u hu;unfold lR at hu;rcases cS.1 hu with hu|hu
 ·simp only[Ky,dB,gJ,gK]at hu;rcases hu with rfl|rfl|rfl|rfl|rfl|rfl<;>rfl
 rcases cS.1 hu with hu|hu
 ·grind[tG]
 simp only[VC,dB,gJ,gK]at hu;rcases hu with rfl|rfl|rfl<;>rfl
theorem du r:(bU r).all (λx=>x.oneCell')=true:=by
 apply gH.2;intro x D;simp only[bU,kP,dB,gJ,gK]at D;rcases D with rfl|rfl|rfl|rfl|rfl|rfl|rfl|rfl|rfl|rfl|rfl<;>rfl
theorem bh:(prog.info? 64).map (·.size)=some 11:=bZ
theorem o0:∃d,prog.underlying 64=some d/\ee d=true:=⟨_,underlying64,rfl⟩
theorem M0:(prog.info? 173).map (·.size)=some 45:=bZ
theorem ab_:∃d,prog.underlying 173=some d/\ee d=true:=⟨_,underlying173,rfl⟩
theorem ZK:(prog.info? 173).map (λi=>(i.zero,i.size,i.bytes))=some (some (agg Dq),45,160):=bZ
structure Pc where
 a:Value
 b:Value
 c:Value
 d:Value
 e:Value
def vj(pc:Pc)(x:Sv)(kv:Value)(tb:Nat):Array Value:=
 #[pc.a,pc.b,pc.c,pc.d,pc.e,int i64 x.made,kv,int i64 x.joined,string x.tail,slice (some ⟨tb,0,none⟩) x.ai.length x.ai.length,int i64 x.bj,int i64 x.turn]
structure gF(w:World)(xb:Nat)tb T pc ol x kv:Prop where
 cj:w.heap[xb]? =some (cells (vj pc x kv tb) T (0,0))
 row:w.ownsRow 0 261 38 kv x.kept.length (jr x.kept)
 uS:w.heap[tb]? =some (cells (dN x.ai).toArray 173 (0,0))
 wf:∀v∈x.kept,v.now.Wf
 tw:∀t∈x.ai,t.now.Wf
 ty:T=136\/T=138
 pl:∃B lt lb,Bw w B ol pc.c pc.d pc.e lt lb
def Aq(xb tb:Nat)(kv:Value)(k:Nat):Prop:=k=xb\/k=tb\/kv.ownBlock=some k
def jh(w w':World)(xb tb:Nat)(T:TypeId)(pc:Pc)(ol:Ol)(kv:Value)(x':Sv):Prop:=
 ∃D,gF w' xb tb T pc ol x' D/\(∀k,D.ownBlock=some k->kv.ownBlock=some k\/w.heap.size<=k)/\Kp (Aq xb tb kv) w w'
def Fp(e:TypeId):Prop:=e=155\/e=209\/e=282\/e=255
theorem Bw.UM{w w' S B ol sv tv bv lt lb}(F:Bw w B ol sv tv bv lt lb)(k:Kp S w w')(hs:∀i E e,w.heap[i]? =some (cells E e (0,0))->Fp e->¬S i):Bw w' B ol sv tv bv lt lb:=by
 have D:∀{base e size v n xs},w.ownsRow base e size v n xs->Fp e->∀i,v.ownBlock=some i->¬S i:=by
  grind[bC]
 exact⟨k.owns F.ah (D F.ah (inl rfl)),F.G8,k.owns F.dF (D F.dF (inr (inl rfl))),λx hx=>k.owns (F.kZ x hx) (D (F.kZ x hx) (inr (inr (inr rfl)))),
  F.Kj,k.owns F.fH (D F.fH (inr (inr (inl rfl)))),λx hx=>k.owns (F.uo x hx) (D (F.uo x hx) (inr (inr (inr rfl))))⟩
section
variable {w w':World} {xb tb:Nat} {T:TypeId} {pc:Pc} {ol:Ol} {x:Sv} {kv:Value}
theorem gF.UN(h:gF w xb tb T pc ol x kv):T≠261/\T≠173/\T≠95/\¬Fp T:=by
 rcases h.ty with rfl|rfl<;>exact⟨aV,aV,aV,by unfold Fp;decide⟩
theorem gF.tZ(h:gF w xb tb T pc ol x kv):xQ w 0 xb 5 (vj pc x kv tb) T x.made x.kept kv:=⟨h.cj,rfl,rfl,h.row,h.wf,h.UN.1⟩
theorem gF.neT(h:gF w xb tb T pc ol x kv):xb≠tb:=by
 intro e;have D:=h.cj;rw[e,h.uS]at D;simp only[bE,eH]at D;exact h.UN.2.1 D.2.1.symm
theorem gF.kvX(h:gF w xb tb T pc ol x kv):kv.ownBlock≠some xb:=aZ h.row h.cj h.UN.1.symm
theorem gF.kvT(h:gF w xb tb T pc ol x kv):kv.ownBlock≠some tb:=aZ h.row h.uS aV
theorem gF.plS(h:gF w xb tb T pc ol x kv)(K:Kp (Aq xb tb kv) w w'):∃B lt lb,Bw w' B ol pc.c pc.d pc.e lt lb:=by
 have⟨B,lt,lb,F⟩:=h.pl;refine⟨B,lt,lb,F.UM K ?_⟩;intro i D e hi he E;rcases E with rfl|rfl|hk
 ·rw[h.cj]at hi;simp only[bE,eH]at hi;exact h.UN.2.2.2 (by rw[hi.2.1];exact he)
 ·rw[h.uS]at hi;grind[Fp]
 have⟨cur',hc⟩:=bC h.row hk;grind[Fp]
theorem gF.aB{S}(h:gF w xb tb T pc ol x kv)(K:Kp S w w')(E:¬S xb)(G:¬S tb)(I:∀k,kv.ownBlock=some k->¬S k)(J:∀i D e,w.heap[i]? =some (cells D e (0,0))->Fp e->¬S i):gF w' xb tb T pc ol x kv:=by
 have⟨B,lt,lb,F⟩:=h.pl;exact⟨K.at_ h.cj E,K.owns h.row I,K.at_ h.uS G,h.wf,h.tw,h.ty,B,lt,lb,F.UM K J⟩
theorem gF.aw(h:gF w xb tb T pc ol x kv)(K:Kp bA w w'):gF w' xb tb T pc ol x kv:=h.aB K (λx=>x) (λx=>x) (λ_ _ x=>x) (λ_ _ _ _ _ x=>x)
theorem gF.lK(h:gF w xb tb 138 pc ol x kv):Pl w xb 0 ol:=by
 have⟨B,lt,lb,F⟩:=h.pl;exact⟨pc.c,pc.d,pc.e,lt,lb,B,_,_,⟨h.cj,inr (inr rfl),rfl,rfl,rfl⟩,F⟩
theorem gF.cell(h:gF w xb tb T pc ol x kv)j:w.cell? ⟨xb,j,none⟩=(vj pc x kv tb)[j]?:=by rw[World.cell?,h.cj];rfl
theorem gF.free(h:gF w xb tb T pc ol x kv)j:w.frozen? ⟨xb,j,none⟩=false:=by simp[World.frozen?,h.cj]
theorem gF.sn(h:gF w xb tb T pc ol x kv)j:w.frozen? ⟨tb,j,none⟩=false:=by simp[World.frozen?,h.uS]
theorem gF.fG(h:gF w xb tb T pc ol x kv){u}{t}(hu:x.ai[u]? =some t){j}(D:j<45):w.cell? ⟨tb,u*45+j,none⟩=(lR t)[j]?:=by
 rw[ke h.uS];exact kg lR 45 x.ai u t j (λa ha=>gE (h.tw a ha)) hu D
theorem gF.tWf(h:gF w xb tb T pc ol x kv){u:Nat}{t}(hu:x.ai[u]? =some t):t.now.Wf:=h.tw t (aP hu)
theorem gF.ai(h:gF w xb tb T pc ol x kv){u}{t'}(hw:t'.now.Wf)(K:Kp (λk=>k=tb) w w')(hb:w'.heap[tb]? =some (cells (dN (x.ai.set u t')).toArray 173 (0,0))):
 gF w' xb tb T pc ol {x with ai:=x.ai.set u t'} kv:=by
 refine⟨?_,K.owns h.row (λk e x=>h.kvT (by rw[<-x];exact e)),hb,h.wf,?_,h.ty,h.plS (K.mono (λ_ _ x=>inr (inl x)))⟩
 ·have:=K.at_ h.cj h.neT;grind[vj]
 intro t D;rcases s6 D with D|rfl
 ·exact h.tw t D
 omega
theorem gF.UO(h:gF w xb tb T pc ol x kv){u}{t}{t'}(hu:x.ai[u]? =some t)(hw:t'.now.Wf)j(D:j<45)v(E:lR t'=(lR t).set j v):
 gF (w.setCell ⟨tb,u*45+j,none⟩ v) xb tb T pc ol {x with ai:=x.ai.set u t'} kv:=by
 refine h.ai hw ((Kp.refl (λk=>k=tb) w).setCell (p:=⟨tb,u*45+j,none⟩) (λ_=>rfl) _) ?_;rw[ar _ h.uS];congr 2;have:=tW lR 45 x.ai u t t' j v (λa ha=>gE (h.tw a ha)) hu D E;grind[dN]
theorem gF.acf(h:gF w xb tb T pc ol x kv){u}{t}{t'}(hu:x.ai[u]? =some t)(hw:t'.now.Wf)j l(D:j+l.length<=45)(E:lR t'=(lR t).take j++l++(lR t).drop (j+l.length)):
 gF (w.setRow tb (putAt (dN x.ai).toArray (u*45+j) l)) xb tb T pc ol {x with ai:=x.ai.set u t'} kv:=by
 refine h.ai hw ((Kp.refl (λk=>k=tb) w).setRow (λ_=>rfl) _) ?_;rw[an w tb _ _ 173 (0,0) h.uS];congr 2;exact zW lR 45 x.ai u t t' j l (λa ha=>gE (h.tw a ha)) hu D E
theorem gF.JJ(h:gF w xb tb T pc ol x kv):(dN x.ai).toArray.size=x.ai.length*45:=by
 simp only[List.size_toArray];exact tV lR 45 x.ai (λa ha=>gE (h.tw a ha))
theorem gF.own(h:gF w xb tb T pc ol x kv){x'}(hk:x'.kept=x.kept)(D:x'.ai=x.ai)(K:Kp (λk=>k=xb) w w')(hb:w'.heap[xb]? =some (cells (vj pc x' kv tb) T (0,0))):gF w' xb tb T pc ol x' kv:=by
 refine⟨hb,by rw[hk];exact K.owns h.row (λk e x=>h.kvX (by rw[<-x];exact e)),by rw[D];exact K.at_ h.uS h.neT.symm,by rw[hk];exact h.wf,by rw[D];exact h.tw,h.ty,h.plS (K.mono (λ_ _ x=>inl x))⟩
theorem gF.CS(h:gF w xb tb T pc ol x kv){x'}(hk:x'.kept=x.kept)(D:x'.ai=x.ai)j v(he:(vj pc x kv tb).setIfInBounds j v=vj pc x' kv tb):gF (w.setCell ⟨xb,j,none⟩ v) xb tb T pc ol x' kv:=by
 refine h.own hk D ((Kp.refl (λk=>k=xb) w).setCell (p:=⟨xb,j,none⟩) (λ_=>rfl) _) ?_;rw[ar _ h.cj,he]
theorem jh.refl(h:gF w xb tb T pc ol x kv):jh w w xb tb T pc ol kv x:=⟨kv,h,λ_ e=>inl e,Kp.refl _ _⟩
theorem jh.of(h:gF w' xb tb T pc ol x kv)(K:Kp (Aq xb tb kv) w w'):jh w w' xb tb T pc ol kv x:=⟨kv,h,λ_ e=>inl e,K⟩
theorem jh.trans{D x' F}(K:Kp (Aq xb tb kv) w w')(hk:∀k,F.ownBlock=some k->kv.ownBlock=some k\/w.heap.size<=k)(q:jh w' D xb tb T pc ol F x'):jh w D xb tb T pc ol kv x':=by
 have⟨kv2,h2,G,K2⟩:=q;refine⟨kv2,h2,?_,K.trans' K2 ?_⟩
 ·intro k e;rcases G k e with E|E
  ·simp_all
  exact inr (bz K.size E)
 intro i hi s;rcases s with s|s|s
 ·exact inl s
 ·exact inr (inl s)
 rcases hk i s with e|e
 ·exact inr (inr e)
 omega
theorem gF.W8(h:gF w xb tb T pc ol x kv){D}(K:Kp (λk=>kv.ownBlock=some k) w w')(hs:xQ w' 0 xb 5 (vj pc x kv tb) T x.made D kv):gF w' xb tb T pc ol {x with kept:=D} kv:=
 ⟨hs.cj,hs.row,K.at_ h.uS h.kvT,hs.wf,h.tw,h.ty,h.plS (K.mono (λ_ _ x=>inr (inr x)))⟩
theorem gF.rJ(h:gF w xb tb T pc ol x kv){g}{c}{e}(Q:w.heap[g]? =some (cells c e (0,0)))(he:e=64\/e=95)F:gF (w.setRow g F) xb tb T pc ol x kv:=by
 have J:e≠T:=by rcases he with rfl|rfl<;>rcases h.ty with rfl|rfl<;>decide
 have O:e≠261:=by rcases he with rfl|rfl<;>decide
 have I:e≠173:=by rcases he with rfl|rfl<;>decide
 have ne:∀{b:Nat} {E:Array Value} {D:TypeId},w.heap[b]? =some (cells E D (0,0))->e≠D->b≠g:=by
  grind
 refine h.aB (S:=λk=>k=g) ((Kp.refl (λk=>k=g) w).setRow (λ_=>rfl) _) (ne h.cj J) (ne h.uS I) ?_ ?_
 ·intro k G;have⟨cur,hc⟩:=bC h.row G;grind
 grind[Fp]
theorem gF.low(h:gF w xb tb T pc ol x kv):∀k,Aq xb tb kv k->k<w.heap.size:=by
 rintro k (rfl|rfl|e)
 ·exact aR h.cj
 ·exact aR h.uS
 have⟨cur,hc⟩:=bC h.row e;grind
theorem jh.at_{x'}(q:jh w w' xb tb T pc ol kv x'){n}(D:∀k,Aq xb tb kv k->k<n){o}(E:w.heap[n]? =some o):w'.heap[n]? =some o:=by
 have⟨rj,h4,n4,K4⟩:=q;exact K4.at_ E (λs=>by have:=D n s;omega)
theorem jh.eV{D x'}(K:Kp (Aq xb tb kv) w w')(q:jh w' D xb tb T pc ol kv x'){c}(F:D.heap[w.heap.size]? =some (cells c 64 (0,0)))E:jh w (D.setRow w.heap.size E) xb tb T pc ol kv x':=by
 have⟨rj,h4,n4,K4⟩:=q;exact⟨rj,h4.rJ F (inl rfl) E,λk e=>(n4 k e).imp id (bz K.size),(K.trans' K4 (λ_ _ s=>s)).setRow (λx=>oQ) E⟩
end
namespace Ch
structure Sv.Bd(x:Sv):Prop where
 made:x.made<=100000000000000
 JK:x.kept.length<=1000
 vC:∀v∈x.kept,v.num<=1000000000000000/\v.pins<=1000000000000000
 joined:x.joined<=8000000000000000000
 tail:x.tail.size<=24
 tj:x.tail.size<=x.joined
 tick:x.bj<=1000000000000000
 turn:x.turn<=1000000000000000
 ai:x.ai.length<=6
def kh(x:Sv)(e:Int):Rp:={eY with err:=e,mY:=(x.made:Int)-1}
def pR(x:Sv)(a:Int):Rp:=
 if(i_ x.joined x.tail a).2 !=0 then kh x (i_ x.joined x.tail a).2
 else {eY with mY:=(x.made:Int)-1,next:=a+((i_ x.joined x.tail a).1.size:Int),text:=(i_ x.joined x.tail a).1}
end Ch
theorem vT w{xb}{tb}{T}{pc}{ol}{x}{kv}(h:gF w xb tb T pc ol x kv)(D:x.Bd)s(hs:s.Wf)out(ho:out.size<=10000000000):
 Calls prog 135 #[pointer (some ⟨xb,0,none⟩),agg (aN s).toArray,string out] w λr w'=>r=returned (tuple #[])/\jh w w' xb tb T pc ol kv (lQ x s out):=by
 have⟨ds,hds,iT⟩:=g7;have X:=ak w (cells (aN s).toArray 95);have G:=kG w (cells (aN s).toArray 95);have h1:=h.aw G;have Y:(prog.info? 95).map (·.size)=some (aN s).toArray.size:=by rw[show(aN s).toArray.size=36 by simp[dp hs]];exact dh
 have EA:=ag (Pu (w.alloc (cells (aN s).toArray 95)).drew (h1.aw ((Kp.refl _ _).drewN 1)).tZ (aA _) D.JK D.made D.vC h.UN.2.2.1 s hs);have ab:=aR h.cj;have aa:=aR h.uS;have U:∀k,kv.ownBlock=some k->k<w.heap.size:=λk e=>by
  have⟨cur,hc⟩:=bC h.row e;exact aR hc
 have HH:=c_ h D G;generalize Pr:(aN s).toArray=I at*;go_in;go_upto_region 1 with fail;generalize w.alloc (cells I 95)=w1 at*;have E:w1.drew.heap[w.heap.size]? =_:=X;refine aY (λw'=>w'.heap[w.heap.size]? =some (cells I 95 (0,0))) bZ ?_;refine bR 0 6 (pointer (some ⟨xb,0,none⟩)) E ?_;refine bR 1 7 (pointer (some ⟨xb,0,none⟩)) E ?_;refine bR 2 8 (pointer (some ⟨xb,5,none⟩)) E ?_;refine fh 3 9 (agg I) rfl (λw' hS=>dR 95 (tmp 4) rfl w.heap.size rfl 95 I (0,0) ds hS hds iT Y) E ?_;refine pf 4 ?_;refine er (some 10) rfl 184 #[pointer (some ⟨xb,5,none⟩),agg I] wX (tuple #[]) _ EA ?_;rintro w2 ⟨rj,q1,q2,q3,Q⟩;have R:w2.heap[w.heap.size]? =some (cells I 95 (0,0)):=Q.at_ E (by
  rintro(e|e)
  ·omega
  have:=U _ e;omega)
 refine⟨R,?_⟩;refine bG bZ (bH ?_) _;have EJ:=ag (MY w2 (jo:=7) (joined:=x.joined) (tail:=x.tail) q1 (by simp[vj]) (by simp[vj]) out D.tail ho D.joined);have HQ:=c_ q2 q3 Q;go_wp;refine b9 EJ ?_;rintro w3 ⟨Z,O⟩;have HP:=bw Z O;go_wp2;go_end0
 refine⟨rfl,rj,?_⟩;have⟨h,D,G⟩:=HH;have⟨q2,q3,Q⟩:=HQ;have⟨Z,O⟩:=HP;have KA:Kp (Aq xb tb kv) w w2:=((G.drewN 1).mono gM).trans' Q (λi _ s=>s.elim (λs=>inl s) (λs=>inr (inr s)));have KB:=KA.trans' O (λi _ s=>inl s);have J:=λk e=>bz G.size (q3 k e);refine⟨⟨?_,O.owns q2 (λk e x=>by have:=J k e;omega),?_,?_,h.tw,h.ty,h.plS KB⟩,λk e=>inr (J k e),KB⟩
 ·rw[Z];simp[vj,lQ]
 ·have K2:=(((G.drewN 1).mono gM).trans' Q (λi _ s=>s)).trans' O (λi _ s=>inl s);exact K2.at_ h.uS (by
   rintro(e|e)
   ·exact h.neT e.symm
   exact h.kvT e)
 intro v F;have F:=(fR.1 F).1;rcases cS.1 F with F|F
 ·exact h.wf v F
 simp at F;subst F;exact hs
theorem yP w{xb}{tb}{T}{pc}{ol}{x}{kv}(h:gF w xb tb T pc ol x kv)u:
 Calls prog 90 #[pointer (some ⟨xb,0,none⟩),int i64 u] w λr w'=>r=returned (bool (decide (0<=u)&&decide (u<(x.ai.length:Int))))/\w'=w:=by
 have F:w.cell? _=some (slice (some ⟨tb,0,none⟩) x.ai.length x.ai.length):=h.cell 9;by_cases E:0<=u
 ·by_cases D:u<(x.ai.length:Int)
  ·go_in;go_wp2;go_ret;exact⟨by simp[E,D],rfl⟩
  go_in;go_wp2;go_ret;exact⟨by simp[D],rfl⟩
 go_in;go_wp2;go_ret;exact⟨by simp;omega,rfl⟩
theorem GP w{xb}{tb}{T}{pc}{ol}{x}{kv}(h:gF w xb tb T pc ol x kv)(hk:x.kept.length<=1000):
 Calls prog 85 #[pointer (some ⟨xb,0,none⟩)] w λr w'=>r=returned (slice (some ⟨w.heap.size,0,none⟩) x.kept.length x.kept.length)/\w'.ownsRow w.heap.size 3 1 (slice (some ⟨w.heap.size,0,none⟩) x.kept.length x.kept.length) x.kept.length (x.kept.map λv=>int i64 v.num)/\Kp bA w w':=by
 have E:=ag (JG w h.tZ hk);go_in;go_wp;refine b9 E ?_;rintro I ⟨G,F⟩;have D:=bw G F;exact iN D
theorem o_ w{xb}{tb}{T}{pc}{ol}{x}{kv}(h:gF w xb tb T pc ol x kv)(F:x.made<=1000000000000000)e:
 Calls prog 190 #[pointer (some ⟨xb,0,none⟩),int i64 e] w λr w'=>r=returned (agg (bU (kh x e)))/\Kp bA w w':=by
 have⟨dr,hdr,fX⟩:=o0;have G:=kG w (cells aU 64);have D:=ak w (cells aU 64);have E:=ag (oB _ (h.aw G).tZ F);have J:=an (w.alloc (cells aU 64)) w.heap.size aU (bU (kh x e)) 64 (0,0) D;have I:=G.setRow (g:=w.heap.size) (λx=>oQ) (bU (kh x e));go_in;go_upto_region 1 with fail;generalize w.alloc (cells aU 64)=O at*;go_wp;refine cF E ?_;go_wp2_with (refine bJ (bU (kh x e)) D bh rfl (du _) ?_);refine uY J hdr fX bh ?_;exact⟨rfl,I⟩
namespace Ch
theorem W9{j t a}(h:(i_ j t a).2=0):a<=(j:Int)/\(j:Int)-(t.size:Int)<=a/\(i_ j t a).1.size<=8:=by
 unfold i_ at*;split at h
 ·omega
 split at h
 ·omega
 rename_i D E;refine⟨oQ,oQ,?_⟩;rw[ax D,ax E];split
 ·simp_all<;>omega
 simp_all
def xj(x:Sv)(t:Tk):Int:=if t.at_<0 then(x.made:Int)-1 else t.at_
def pS(x:Sv)(u:Nat)(t:Tk):Sv×Rp×Bool:=
 if(x.made:Int)-1<xj x t then(x,kh x 14,true)
 else if(tY x.kept (xj x t)).2 then({x with kept:=(tY x.kept (xj x t)).1,ai:=x.ai.set u {t with pinned:=xj x t}},eY,false)
 else(x,kh x 15,true)
theorem M6{l n}(h:(tY l n).2=false):(tY l n).1=l:=by
 grind[tY]
end Ch
theorem bQ{E}{p q:Tmp}(h:E.results= #[.cell p 64,.tmp q])D w g r(G:D.getD p undef= pointer (some ⟨g,0,none⟩))(F:w.heap[g]? =some (cells (bU r) 64 (0,0))):
 (results E D).run prog w= .ok (tuple #[agg (bU r),D.getD q undef]) w:=by
 have⟨dr,hdr,fX⟩:=o0;exact results_cell_tmp h D w g 64 (bU r) (0,0) dr G F hdr fX bh
theorem UP w{xb}{tb}{T}{pc}{ol}{x}{kv}(h:gF w xb tb T pc ol x kv)(D:x.Bd)a:
 Calls prog 140 #[pointer (some ⟨xb,0,none⟩),int i64 a] w λr w'=>r=returned (agg (bU (pR x a)))/\Kp bA w w':=by
 have⟨dr,hdr,fX⟩:=o0;have K1:=kG w (cells aU 64);have G:=ak w (cells aU 64);have h1:=h.aw K1;have E:=ag (MZ (w.alloc (cells aU 64)) (jo:=7) (joined:=x.joined) (tail:=x.tail) h1.cj rfl rfl a D.tail D.tj D.joined)
 have HU:=ag (show pR x a=if(i_ x.joined x.tail a).2 !=0 then kh x (i_ x.joined x.tail a).2
  else {eY with mY:=(x.made:Int)-1,next:=a+((i_ x.joined x.tail a).1.size:Int),text:=(i_ x.joined x.tail a).1}from rfl)
 have X:(i_ x.joined x.tail a).2=0->a<=(x.joined:Int)/\(x.joined:Int)-(x.tail.size:Int)<=a/\(i_ x.joined x.tail a).1.size<=8:=W9;have ab:=D.tj;have hj:=D.joined;have aa:=D.made;have HH:=bw h1 K1;generalize i_ x.joined x.tail a=tt at*;have⟨tx,te⟩:=tt;simp only at*;go_in;go_upto_region 1 with fail;generalize w.alloc (cells aU 64)=w1 at*;go_wp;refine b9 E ?_;intro w2 O;have F:=O.at_ G (λx=>x);have h2:=HH.1.aw O;have KA:=HH.2.trans O;cases Z:te !=0 with
 |true=>
  have J:=ag (HU.trans (show _=kh x te by rw[Z];rfl));have I:=ag (o_ w2 h2 oQ te);go_wp21;refine b9 I ?_;intro w3 K3;have oM:=K3.at_ F (λx=>x);have Q:=(KA.trans K3).setRow (g:=w.heap.size) (λx=>oQ) (bU (kh x te));have Y:=an w3 w.heap.size aU (bU (kh x te)) 64 (0,0) oM;go_wp2_with (refine bJ (bU (kh x te)) oM bh rfl (du _) ?_);refine uY Y hdr fX bh ?_;rw[J];exact⟨rfl,Q⟩
 |false=>?_
 have U:te=0:=cX Z;subst U;have⟨ha1,ha2,ha3⟩:=X rfl;have J:=ag (HU.trans (show _={eY with mY:=(x.made:Int)-1,next:=a+(tx.size:Int),text:=tx}by rw[Z];rfl));have I:=ag (oB w2 h2.tZ oQ);generalize ZL:{eY with mY:=(x.made:Int)-1,next:=a+(tx.size:Int),text:=tx}=R at*;have Q:=KA.setRow (g:=w.heap.size) (λx=>oQ) (bU R);have Y:=an w2 w.heap.size aU (bU R) 64 (0,0) F;have HR:=ag ZL;go_wp21;refine cF I ?_;go_wp2_with (refine wpList_store_row rfl 64 (tmp 4) (tmp 29) rfl w.heap.size (bU R) rfl (by rw[<-HR];rfl) 64 aU F bh rfl (du _) ?_);refine uY Y hdr fX bh ?_;rw[J];exact⟨rfl,Q⟩
theorem M7 w{xb}{tb}{T}{pc}{ol}{x}{kv}(h:gF w xb tb T pc ol x kv)(aa:x.Bd){u}{t}(hu:x.ai[u]? =some t):
 Calls prog 187 #[pointer (some ⟨xb,0,none⟩),pointer (some ⟨tb,u*45,none⟩)] w λr w'=>r=returned (tuple #[agg (bU (pS x u t).2.1),bool (pS x u t).2.2])/\jh w w' xb tb T pc ol kv (pS x u t).1:=by
 have K1:=kG w (cells aU 64);have G:=ak w (cells aU 64);have h1:=h.aw K1;have ad:=aa.made;have aI:=aR h.cj;have ap:=aR h.uS;have ab:∀k,kv.ownBlock=some k->k<w.heap.size:=λk e=>by
  have⟨cur,hc⟩:=bC h.row e;exact aR hc
 have O:=h.tWf hu;have c2:(w.alloc (cells aU 64)).cell? ⟨tb,u*45+2,none⟩=some _:=h1.fG hu oQ;have E1:=ag (oB (w.alloc (cells aU 64)) h1.tZ oQ)
 have HU:=ag (show pS x u t=if(x.made:Int)-1<xj x t then(x,kh x 14,true)
  else if(tY x.kept (xj x t)).2 then({x with kept:=(tY x.kept (xj x t)).1,ai:=x.ai.set u {t with pinned:=xj x t}},eY,false)
  else(x,kh x 15,true)from rfl)
 have HW:=ag (show xj x t=if t.at_<0 then(x.made:Int)-1 else t.at_ from rfl);have E:=rP h1 K1 h aa hu;generalize pS x u t=TS at*;generalize xj x t=D at*;go_in;go_upto_region 1 with fail;generalize w.alloc (cells aU 64)=w1 at*;go_upto_if 13 with(fail)
 go_cut [6,13]from 14 to 17 (λn _ wx=>n= int i64 D/\wx=w1)
 case first=>
  by_cases q:t.at_<0
  ·go_wp;refine cF E1 ?_;go_wp2;go_meet;exact⟨by rw[HW,aq q],rfl⟩
  go_wp2;go_meet;exact⟨by rw[HW,ax oQ],rfl⟩
 case rest=>
  obtain⟨rfl,rfl⟩:=hcut;by_cases q1:(x.made:Int)-1<D
  ·have X:=ag (HU.trans (aq q1));have E2:=ag (o_ wc E.1 oQ 14);go_wp;refine cF E1 ?_;go_wp21;refine b9 E2 ?_;intro R I;have U:=I.at_ G (λx=>x);have J:=(E.1.aw I).rJ U (inl rfl) (bU (kh x 14));have Z:=((E.2.1.trans I).mono (S':=Aq xb tb kv) gM).setRow (g:=w.heap.size) (λx=>oQ) (bU (kh x 14));have lH:=an R w.heap.size aU (bU (kh x 14)) 64 (0,0) U;have F:=bw J Z;go_wp2_with (refine bJ (bU (kh x 14)) U bh rfl (du _) ?_);refine aJ (bQ rfl _ _ w.heap.size _ rfl lH) rfl ?_;rw[X];exact⟨rfl,jh.of F.1 F.2⟩
  have HV:=ag (HU.trans (ax q1));have EP:=ag (W6 wc E.1.tZ E.2.2.2.1.JK D (λv hv=>(E.2.2.2.1.vC v hv).2));have aj:(tY x.kept D).2=false->(tY x.kept D).1=x.kept:=M6;generalize tY x.kept D=pp at*;have⟨pk,pb⟩:=pp;simp only at*;go_wp;refine cF E1 ?_;go_wp21;refine b9 EP ?_;rintro R ⟨s4,I⟩;have J:=E.1.W8 I s4;have U:=I.at_ G (λe=>by have:=ab _ e;omega);have KA:Kp (Aq xb tb kv) w R:=(E.2.1.mono gM).trans' I (λi _ e=>inr (inr e));cases pb with
  |false=>
   have X:=ag (HV.trans (ax dy));have am:=aj rfl;subst am;have E2:=ag (o_ R J (by exact bz ad oQ) 15);have HX:=bw J KA;go_wp21;refine b9 E2 ?_;intro w5 Y;have Q:=Y.at_ U (λx=>x);have h5:=(HX.1.aw Y).rJ Q (inl rfl) (bU (kh x 15));have Z:=(HX.2.trans' Y gM).setRow (g:=w.heap.size) (λx=>oQ) (bU (kh x 15));have lH:=an w5 w.heap.size aU (bU (kh x 15)) 64 (0,0) Q;have F:=bw h5 Z;go_wp2_with (refine bJ (bU (kh x 15)) Q bh rfl (du _) ?_);refine aJ (bQ rfl _ _ w.heap.size _ rfl lH) rfl ?_;rw[X];exact⟨rfl,jh.of F.1 F.2⟩
  |true=>?_
  have X:=ag (HV.trans (aq rfl));have ao:R.cell? ⟨tb,u*45+44,none⟩=some _:=(J.fG E.2.2.2.2 oQ).trans (oZ O 2);have f44:=J.sn (u*45+44);have h5:=J.UO (t':={t with pinned:=D}) E.2.2.2.2 O 44 oQ (int i64 D) (vQ (t':={t with pinned:=D}) O rfl rfl 2 _ rfl);have Y:Kp _ _ (R.setCell ⟨tb,u*45+44,none⟩ (int i64 D)):=KA.setCell (p:=⟨tb,u*45+44,none⟩) (λ_=>inr (inl rfl)) _;have Q:(R.setCell ⟨tb,u*45+44,none⟩ (int i64 D)).heap[w.heap.size]? =some (cells aU 64 (0,0)):=by
   rw[lS _ _ _ _ (by show w.heap.size≠tb;omega)];exact U
  have h6:=h5.rJ Q (inl rfl) aU;have Z:=Y.setRow (g:=w.heap.size) (λx=>oQ) aU;have lH:=an _ w.heap.size aU aU 64 (0,0) Q;have F:=bw h6 Z;go_wp2_with (refine bJ aU Q bh rfl (du eY) ?_);refine aJ (bQ rfl _ _ w.heap.size eY rfl lH) rfl ?_;rw[X];exact⟨rfl,jh.of F.1 F.2⟩
namespace Ch
def atK(l:List Vr)(n:Int):Option (Nat×Vr):=match l.findIdx? (λv=>(v.num:Int)==n)with
 |some k=>l[k]?.map (λv=>(k,v))
 |none=>none
theorem Oy{l k v}(E:l[k]? =some v)(D:∀j u,l[j]? =some u->u.num=v.num->j=k):atK l v.num=some (k,v):=by
 have⟨hi1,hi2⟩:=aM.1 E;have e:l.findIdx? (λu=>(u.num:Int)==(v.num:Int))=some k:=by
  rw[List.findIdx?_eq_some_iff_getElem];refine⟨hi1,by rw[hi2];simp,?_⟩;intro j F;have:=D j _ (au oQ);grind
 grind[atK]
def Q9(made:Nat)(l:List Vr)(n:Int):List Vr:=match atK l n with|some (k,v)=>DP made l k v|none=>nK made l
def Fq(l:List Vr)(n:Int):Sd:=match atK l n with|some (_,v)=>v.now|none=>zX
def df(t:Tk):Tk:={t with steps:=t.steps+1}
def aD(x:Sv)(u:Nat)(t:Tk):Sv:={x with ai:=x.ai.set u t}
def pT(ol:Ol)(x:Sv)(u:Nat)(t:Tk):Sv×Rp×Bool:=
 if t.steps=0 then pS (aD x u (df t)) u (df t)
 else if t.steps=1 then(aD x u (df t),eY,false)
 else({aD x u (df t)with kept:=Q9 x.made x.kept t.pinned},{eY with mY:=t.pinned,st:=bX ol.ah (Fq x.kept t.pinned)},true)
theorem W_{made l k v}(h:∀v∈l,v.now.Wf)(D:l[k]? =some v):∀u∈DP made l k v,u.now.Wf:=by
 intro u hu;have hu:=(fR.1 hu).1;grind
end Ch
section
variable {w w':World} {xb tb:Nat} {T:TypeId} {pc:Pc} {ol:Ol} {x:Sv} {kv:Value}
theorem gF.ach(h:gF w xb tb T pc ol x kv){l}(D:∀v∈l,v.now.Wf)(q:Q8 w w' 0 xb 5 (vj pc x kv tb) T kv l):jh w w' xb tb T pc ol kv {x with kept:=l}:=by
 have⟨rj,q1,q2,q3,q4⟩:=q;have KB:Kp (Aq xb tb kv) w w':=q4.mono (λi _ s=>s.elim (λs=>inl s) (λs=>inr (inr s)));refine⟨rj,⟨?_,q2,?_,D,h.tw,h.ty,h.plS KB⟩,λk e=>inr (q3 k e),KB⟩
 ·simp_all[vj]
 exact q4.at_ h.uS (by
  rintro(e|e)
  ·exact h.neT e.symm
  exact h.kvT e)
theorem Q8.fG{l C}(h:gF w xb tb T pc ol x kv)(q:Q8 w w' 0 xb 5 C T kv l)j:w'.cell? ⟨tb,j,none⟩=w.cell? ⟨tb,j,none⟩:=by
 have⟨rj,q1,q2,q3,q4⟩:=q;have:=q4.block tb (aR h.uS) (by
  rintro(e|e)
  ·exact h.neT e.symm
  exact h.kvT e)
 unfold World.cell?;simp_all
theorem jh.stand{F E x'}(K:Kp bA w F)(q:jh F E xb tb T pc ol kv x'){g}(I:w.heap.size<=g){c}(G:E.heap[g]? =some (cells c 95 (0,0)))D:jh w (E.setRow g D) xb tb T pc ol kv x':=by
 have⟨rj,h4,n4,K4⟩:=q;exact⟨rj,h4.rJ G (inr rfl) D,λk e=>(n4 k e).imp id (bz K.size),((K.mono gM).trans' K4 (λ_ _ s=>s)).setRow (λx=>oQ) D⟩
theorem jh.alloc{x'}(q:jh w w' xb tb T pc ol kv x')o:jh w (w'.alloc o) xb tb T pc ol kv x':=by
 have⟨rj,h4,n4,K4⟩:=q;exact⟨rj,h4.aw ((Kp.refl _ _).alloc _),n4,K4.alloc _⟩
theorem jh.aw{D x'}(q:jh w w' xb tb T pc ol kv x')(K:Kp bA w' D):jh w D xb tb T pc ol kv x':=by
 have⟨rj,h4,n4,K4⟩:=q;exact⟨rj,h4.aw K,n4,K4.trans' K gM⟩
end
theorem GQ w{xb}{tb}{pc}{ol}{x}{kv}(h:gF w xb tb 138 pc ol x kv)(F:x.Bd)(aI:ol.Ok){u}{t}(hu:x.ai[u]? =some t)(eK:t.steps<=1000)(ZM:2<=t.steps->∃(k:Nat) (v:Vr),x.kept[k]? =some v/\t.pinned=(v.num:Int)/\0<v.pins/\∀ j u,x.kept[j]? =some u->u.num=v.num->j=k):
 Calls prog 139 #[pointer (some ⟨xb,0,none⟩),pointer (some ⟨tb,u*45,none⟩)] w λr w'=>r=returned (tuple #[agg (bU (pT ol x u t).2.1),bool (pT ol x u t).2.2])/\jh w w' xb tb 138 pc ol kv (pT ol x u t).1:=by
 have K1:=kG w (cells aU 64);have G:=ak w (cells aU 64);have h1:=h.aw K1;have X:=h.low;have a1:=aR h.uS;have U:=h.tWf hu;have aO:(w.alloc (cells aU 64)).cell? ⟨tb,u*45+43,none⟩=some _:=(h1.fG hu oQ).trans (oZ U 1);have f43:=h1.sn (u*45+43);have es:((t.steps+1:Nat):Int)=(t.steps:Int)+1:=oQ;have J:=h1.UO (t':=df t) hu U 43 oQ (int i64 ((t.steps:Int)+1)) (vQ (t':=df t) U rfl rfl 1 _ (by rw[<-es];rfl));have K2:Kp (Aq xb tb kv) w ((w.alloc (cells aU 64)).setCell ⟨tb,u*45+43,none⟩ (int i64 ((t.steps:Int)+1))):=(K1.mono gM).setCell (p:=⟨tb,u*45+43,none⟩) (λ_=>inr (inl rfl)) _;have R:((w.alloc (cells aU 64)).setCell ⟨tb,u*45+43,none⟩ (int i64 ((t.steps:Int)+1))).heap[w.heap.size]? =some (cells aU 64 (0,0)):=by
  rw[lS _ _ _ _ (by show w.heap.size≠tb;omega)];exact G
 have ao:=(aM.1 hu).1
 have HU:=ag (show pT ol x u t=if t.steps=0 then pS (aD x u (df t)) u (df t)
  else if t.steps=1 then(aD x u (df t),eY,false)
  else({aD x u (df t)with kept:=Q9 x.made x.kept t.pinned},{eY with mY:=t.pinned,st:=bX ol.ah (Fq x.kept t.pinned)},true)from rfl)
 change gF _ xb tb _ pc ol (aD x u (df t)) kv at J
 generalize pT ol x u t=RS at*;have Q:=Hi F aI (by unfold aD;simp only;rw[jO ao]:(aD x u (df t)).ai[u]? =some (df t)) (⟨F.made,F.JK,F.vC,F.joined,F.tail,F.tj,F.tick,F.turn,by unfold aD;simp only[j_];exact F.ai⟩:(aD x u (df t)).Bd) ZM h.wf;have ZN:(df t).now.Wf:=U;go_in;go_upto_region 1 with fail;generalize w.alloc (cells aU 64)=w1 at*;go_upto_region 2 with fail;generalize w1.setCell ⟨tb,u*45+43,none⟩ (int i64 ((t.steps:Int)+1))=I at*;have d43:I.cell? ⟨tb,u*45+43,none⟩=some (int i64 ((t.steps:Int)+1)):=by
  have:=(J.fG Q.2.2.1 (j:=43) oQ).trans (oZ ZN 1);rw[this];show some (Value.int i64 ((t.steps+1:Nat):Int))=_;rw[es]
 by_cases q0:t.steps=0
 ·have E:=ag (M7 I J Q.2.2.2.1 Q.2.2.1);have HX:=bw J K2;rw[(oQ:(t.steps:Int)+1=1)]at d43;generalize pS (aD x u (df t)) u (df t)=TS at*;go_wp;refine b9 E ?_;intro w4 q4;have vU:=q4.at_ X R;have HQ:=ag (jh.eV HX.2 q4 vU (bU TS.2.1));have lH:=an w4 w.heap.size aU (bU TS.2.1) 64 (0,0) vU;go_wp2_with (refine bJ (bU TS.2.1) vU bh rfl (du _) ?_);refine aJ (bQ rfl _ _ w.heap.size TS.2.1 rfl lH) rfl ?_;rw[(ag (HU.trans (aq q0)))];exact⟨rfl,HQ⟩
 by_cases q1:t.steps=1
 ·have lH:=an I w.heap.size aU aU 64 (0,0) R;rw[(oQ:(t.steps:Int)+1=2)]at d43;go_wp2_with (refine bJ aU R bh rfl (du eY) ?_);refine aJ (bQ rfl _ _ w.heap.size eY rfl lH) rfl ?_;rw[(ag (HU.trans ((ax q0).trans (aq q1))))];exact⟨rfl,(ag (jh.eV K2 (jh.refl J) R aU))⟩
 have⟨k,v,hv,hpv,zD,hd⟩:=Q.2.2.2.2.1 oQ;have HF:=ag (HU.trans ((ax q0).trans (ax q1)));rw[hpv]at HF;have ad:=Oy hv hd;rw[(by unfold Q9;rw[ad]:Q9 x.made x.kept v.num=DP x.made x.kept k v),(by unfold Fq;rw[ad]:Fq x.kept v.num=v.now)]at HF;have aa:=Q.2.2.2.2.2 v (aP hv);have ER:∀W,gF W xb tb 138 pc ol (aD x u (df t)) kv->Hid (Calls prog 188 #[pointer (some ⟨xb,5,none⟩),int i64 v.num] W λr w'=>r=returned (agg (aN v.now).toArray)/\Q8 W w' 0 xb 5 (vj pc (aD x u (df t)) kv tb) 138 kv (DP x.made x.kept k v)):=
  λW h=>ag (JH W h.tZ Q.1.JK (bz Q.1.made oQ) k v hv zD hd Q.1.vC)
 have ab:I.cell? ⟨tb,u*45+44,none⟩=some (int i64 v.num):=by
  rw[<-hpv];exact(J.fG Q.2.2.1 oQ).trans (oZ ZN 2)
 have aS:(((t.steps:Int)+1)==1)=false:=il;have a0:(((t.steps:Int)+1)==2)=false:=il;have sI:=iD aa;have sS:=jc aa;have sO:=mK v.now;have EQ:∀W w',gF W xb tb 138 pc ol (aD x u (df t)) kv->Q8 W w' 0 xb 5 (vj pc (aD x u (df t)) kv tb) 138 kv (DP x.made x.kept k v)->jh W w' xb tb 138 pc ol kv {aD x u (df t)with kept:=DP x.made x.kept k v}:=
  λW w' hW q=>hW.ach (W_ (made:=x.made) Q.2.2.2.2.2 hv) q
 have am:({aD x u (df t)with kept:=DP x.made x.kept k v}:Sv).ai[u]? =_:=Q.2.2.1;generalize ({aD x u (df t)with kept:=DP x.made x.kept k v}:Sv)=X2 at*;have HE:=bw ER EQ;generalize Pr:(aN v.now).toArray=Z at*;have Vm:=ag Pr;go_upto_region 7 with fail;go_cut [6]from 28 to 35 (λp wx=>∃fb,p= pointer (some ⟨fb,0,none⟩)/\fq wx fb [] v.now [] 95/\jh I wx xb tb 138 pc ol kv X2)
 case first=>
  have D:I.drew.cell? _=_:=ab;have An:Kp bA I I.drew:=(Kp.refl _ _).drewN 1;refine aY (λw'=>w'.cell? ⟨tb,u*45+44,none⟩=some (int i64 v.num)) bZ ?_;refine bR 0 28 (pointer (some ⟨xb,0,none⟩)) D ?_;refine bR 1 29 (pointer (some ⟨xb,0,none⟩)) D ?_;refine bR 2 30 (pointer (some ⟨xb,5,none⟩)) D ?_;refine bR 3 31 (pointer (some ⟨tb,u*45,none⟩)) D ?_;refine bR 4 32 (pointer (some ⟨tb,u*45,none⟩)) D ?_;refine bR 5 33 (pointer (some ⟨tb,u*45+44,none⟩)) D ?_;refine fh 6 34 (int i64 v.num) rfl (λw' hS=>by simp[execOp,Act.eval,go_sem,hS]) D ?_;refine qZ 7 8 bZ rfl rfl rfl rfl ?_ ?_
  ·refine er (some 35) rfl 188 #[pointer (some ⟨xb,5,none⟩),int i64 v.num] wX (agg Z) _ (HE.1 I.drew (J.aw An)).out ?_;intro w5 q5;have O:=((q5.fG (J.aw An) (u*45+44)).trans D)
   have Q5:=HE.2 _ _ (J.aw An) q5;have G:=ak w5 (cells cB 95);refine⟨O,?_⟩;refine pf 8 ?_;refine gA (some 6) rfl (pointer (some ⟨w5.heap.size,0,none⟩)) (w5.alloc (cells cB 95)) Fv ?_;refine⟨Kp.tC ((Kp.refl _ _).alloc _) O,?_⟩;refine cQ 9 bZ rfl rfl 95 (tmp 6) (tmp 35) rfl rfl w5.heap.size Z rM rM 95 cB G sI (by rw[sS];rfl) sO (Kp.tC (((Kp.refl _ _).alloc _).setRow (λx=>oQ) _) O) ?_;refine bG bZ (bH ?_) _;simp only[Act.put,pA,pB,pC];go_wp2;go_meet;exact⟨w5.heap.size,rfl,fq.vE (by rw[Vm];exact an _ _ _ _ _ _ G),jh.stand An (Q5.alloc _) (by have⟨_,_,_,K5⟩:=Q5;exact K5.size) G Z⟩
  refine gA (some 6) rfl (pointer (some ⟨I.heap.size,0,none⟩)) (I.drew.alloc (cells cB 95)) Fv ?_;have Ou:=An.alloc (cells cB 95);have Dd:=Kp.tC Ou ab;refine⟨Dd,?_⟩;refine pf 7 ?_;simp only[Act.put,pA,pB,pC];refine er (some 35) rfl 188 #[pointer (some ⟨xb,5,none⟩),int i64 v.num] wX (agg Z) _ (HE.1 _ (J.aw Ou)).out ?_;intro w5 q5;have O:=((q5.fG (J.aw Ou) (u*45+44)).trans Dd)
  have Q5:=HE.2 _ _ (J.aw Ou) q5;have Yc:=J.low;have kE:=Q5.at_ (n:=I.heap.size) Yc (by exact ak I.drew (cells cB 95));have ug:(w5.setRow I.heap.size Z).cell? ⟨tb,u*45+44,none⟩=some (int i64 v.num):=by
   unfold World.cell? at*;simp only at*;rw[cN _ _ _ _ (by have:=Yc tb (inr (inl rfl));omega)];exact O
  refine⟨O,?_⟩;refine cQ 9 bZ rfl rfl 95 (tmp 6) (tmp 35) rfl rfl I.heap.size Z rM rM 95 cB kE sI (by rw[sS];rfl) sO ug ?_;refine bG bZ (bH ?_) _;simp only[Act.put,pA,pB,pC];go_wp2;go_meet;exact⟨I.heap.size,rfl,fq.vE (by rw[Vm];exact an _ _ _ _ _ _ kE),jh.stand Ou Q5 (aC _) kE Z⟩
 case rest=>
  obtain⟨fb,rfl,RU,QC⟩:=hcut;have ap:=QC.at_ X R;have aj:=QC;have⟨kvC,hC,nC,KC⟩:=QC;have d44:wc.cell? ⟨tb,u*45+44,none⟩=some (int i64 v.num):=by
   rw[<-(ag hpv)];exact(hC.fG am oQ).trans (oZ ZN 2)
  have KD:Kp bA wc wc.drew:=(Kp.refl _ _).drewN 1;have EO:=ag (oK xb 0 wc.drew ol.ah fb 0 [] v.now [] 95 (hC.aw KD).lK.str (bz Q.2.1.ah oQ) (fq.aB RU KD (λx=>x)) aa rfl);have HQ:=bw K2 aj;generalize ZL:({eY with mY:=(v.num:Int),st:=bX ol.ah v.now}:Rp)=Y at*;have HR:=ag ZL;go_upto_region 8 with fail;have D:wc.drew.cell? _=_:=d44;refine aY (λw'=>w'.cell? ⟨tb,u*45+44,none⟩=some (int i64 v.num)) bZ ?_;refine bR 0 36 (pointer (some ⟨tb,u*45,none⟩)) D ?_;refine bR 1 37 (pointer (some ⟨tb,u*45,none⟩)) D ?_;refine bR 2 38 (pointer (some ⟨tb,u*45+44,none⟩)) D ?_;refine fh 3 39 (int i64 v.num) rfl (λw' hS=>by simp[execOp,Act.eval,go_sem,hS]) D ?_;refine bR 4 40 (pointer (some ⟨xb,0,none⟩)) D ?_;refine bR 5 41 (pointer (some ⟨xb,0,none⟩)) D ?_;refine bR 6 42 (pointer (some ⟨xb,0,none⟩)) D ?_;refine pf 7 ?_;refine er (some 43) rfl 44 #[pointer (some ⟨fb,0,none⟩),pointer (some ⟨xb,0,none⟩)] wX (agg (cM (bX ol.ah v.now))) _ EO ?_;intro w6 K6;have CO:=K6.tC D;have vh:=(KD.trans K6).at_ ap (λx=>x);have ug:(w6.setRow w.heap.size (bU Y)).cell? ⟨tb,u*45+44,none⟩=some (int i64 v.num):=by
   unfold World.cell? at*;simp only at*;rw[cN _ _ _ _ (oQ:tb≠w.heap.size)];exact CO
  refine⟨CO,?_⟩;refine iU 8 44 (agg (bU Y)) rfl (λw' _=>eU 64 #[(1,.tmp 39),(4,.tmp 43)] rfl (bU Y) [(1,int i64 v.num),(4,agg (cM (bX ol.ah v.now)))] rM (by rw[<-HR];kernel_rfl)) CO ?_;refine cQ 9 bZ rfl rfl 64 (tmp 4) (tmp 44) rfl rfl w.heap.size (bU Y) rM rM 64 aU vh bh rfl (du _) ug ?_;refine iU 10 5 (bool true) rfl (λw' _=>by rfl) ug ?_;refine bG bZ (bH ?_) _;simp only[Act.put,pA,pB,pC];have lH:=an w6 w.heap.size aU (bU Y) 64 (0,0) vh;have HZ:=ag (jh.eV HQ.1 (HQ.2.aw (KD.trans K6)) vh (bU Y));go_wp;refine aJ (bQ rfl _ _ w.heap.size Y rfl lH) rfl ?_;rw[HF];exact⟨rfl,HZ⟩
