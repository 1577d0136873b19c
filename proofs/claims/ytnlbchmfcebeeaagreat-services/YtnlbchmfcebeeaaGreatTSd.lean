import Derived.Test.YtnlbchmfcebeeaaGreatTHr
set_option maxHeartbeats 12800000
set_option maxRecDepth 100000
namespace Go.Proofs.YtnlbchmfcebeeaaGreat
open Go.Proofs.Tryz Ch
open Go.RowKit
namespace Ch
def zB(tail text:ByteArray):ByteArray:=(tail++text).extract ((tail++text).size-24) (tail++text).size
def gW(joined:Nat)(tail:ByteArray)(at_:Int):ByteArray×Int:=
 if(joined:Int)<at_ then(⟨#[]⟩,14)
 else if at_<(joined:Int)-(tail.size:Int)then(⟨#[]⟩,15)
 else if 8<tail.size-(at_-((joined:Int)-(tail.size:Int))).toNat then(tail.extract (at_-((joined:Int)-(tail.size:Int))).toNat ((at_-((joined:Int)-(tail.size:Int))).toNat+8),0)
 else(tail.extract (at_-((joined:Int)-(tail.size:Int))).toNat tail.size,0)
end Ch
theorem BN(w:World)(u:ByteArray)(cap:Nat):Sem.run prog (convert 47 9 (.slice (some ⟨w.heap.size,0,none⟩) u.size cap)) (Lib.bytesWorld w 5 u)= .ok (.string u) (Lib.bytesWorld w 5 u):=by
 have I:=QL.new w u;have D:=cF u
 have:=ld (P:=prog) (Lib.bytesWorld w 5 u) 47 5 underlying47 underlying5 w.heap.size 0 u.size cap (f_ u) D (by
  intro i hi
  have E:i<(f_ u).length:=by omega
  have F:=I.cell (ar E)
  have G:(f_ u).getD i 0=(f_ u)[i]:=by rw[lL,ar E];rfl
  rw[G,gw];exact F) 9 underlying9
 grind[JN]
section
variable (w:World) {sb jo joined:Nat} {C:Array Value} {T:TypeId} {tail:ByteArray}
theorem Ix(hb:w.heap[sb]? =some (.cells C T (0,0)))(h0:C[jo]? =some (.int .i64 joined))(h1:C[jo+1]? =some (.string tail))(text:ByteArray)(ht:tail.size<=24)(hx:text.size<=10000000000)(hj:joined<=1000000000000000000):
 Calls prog 185 #[.pointer (some ⟨sb,jo,none⟩),.string text] w λx w'=>x= .returned (.tuple #[])/\
  w'.heap[sb]? =some (.cells ((C.setIfInBounds jo (.int .i64 ((joined+text.size:Nat):Int))).setIfInBounds (jo+1) (.string (zB tail text))) T (0,0))/\Kp (λk=>k=sb) w w':=by
 have x0:w.cell? ⟨sb,jo,none⟩=some (.int .i64 joined):=by rw[World.cell?,hb];exact h0
 have f0:w.frozen? ⟨sb,jo,none⟩=false:=by simp[World.frozen?,hb]
 have ej:((joined+text.size:Nat):Int)=(joined:Int)+(text.size:Int):=by omega
 rw[ej];have Z:Kp _ _ (w.setCell ⟨sb,jo,none⟩ (.int .i64 ((joined:Int)+(text.size:Int)))):=(Kp.refl (λk=>k=sb) w).setCell (p:=⟨sb,jo,none⟩) (λ_=>rfl) _;have F:(w.setCell ⟨sb,jo,none⟩ (.int .i64 ((joined:Int)+(text.size:Int)))).heap[sb]? =_:=ak _ hb
 have c1:(C.setIfInBounds jo (.int .i64 ((joined:Int)+(text.size:Int))))[jo+1]? =some (.string tail):=by rw[nK (by omega)];exact h1
 generalize C.setIfInBounds jo (.int .i64 ((joined:Int)+(text.size:Int)))=C1 at*;generalize E:zB tail text=U;unfold zB at E
 go_enter func185,ntmps185
 go_upto_region 1 with(fail)
 generalize w.setCell ⟨sb,jo,none⟩ (.int .i64 ((joined:Int)+(text.size:Int)))=G at*
 have x1:G.cell? ⟨sb,jo+1,none⟩=some (.string tail):=by rw[World.cell?,F];exact c1
 have aa:=λw'=>lf (P:=prog) w' tail text (by omega)
 have I:(tail++text).size=tail.size+text.size:=iJ;generalize tail++text=all at*;have ad:=Lib.run_convert_string_bytes (P:=prog) G 9 47 5 U underlying9 underlying47 underlying5;have WT:=BN G U (grownCap G U.size 0 5);have KB:=zy G 5 U;have D:=KB.at_ F (λx=>x);generalize grownCap G U.size 0 5=cp at*;generalize Lib.bytesWorld G 5 U=X at*
 have x2:X.cell? ⟨sb,jo+1,none⟩=some (.string tail):=by rw[World.cell?,D];exact c1
 have f2:X.frozen? ⟨sb,jo+1,none⟩=false:=by simp[World.frozen?,D]
 have J:(X.setCell ⟨sb,jo+1,none⟩ (.string U)).heap[sb]? =_:=ak _ D
 have K3:Kp _ _ (X.setCell ⟨sb,jo+1,none⟩ (.string U)):=((Z.trans' KB (λi _ x=>x.elim)).setCell (p:=⟨sb,jo+1,none⟩) (λ_=>rfl) _)
 have O:=af (ae J K3);clear J K3 KB Z hb F D c1 h0 h1 x0 f0
 by_cases W7:24<all.size
 ·rw[I]at E
  have aj:(tail.size:Int)+(text.size:Int)-24<=(tail.size:Int)+(text.size:Int):=by omega
  have am:(0:Int)<=(tail.size:Int)+(text.size:Int)-24:=by omega
  have Y:(24:Int)<(tail.size:Int)+(text.size:Int):=by omega
  have ao:((tail.size:Int)+(text.size:Int)-24).toNat=tail.size+text.size-24:=by omega
  go_wp2
  go_end0
  exact⟨rfl,O.out.1,O.out.2⟩
 have Y:¬(24:Int)<(tail.size:Int)+(text.size:Int):=by omega
 have hf:all.size-24=0:=by omega
 rw[hf,I]at E;go_wp2
 go_end0
 exact⟨rfl,O.out.1,O.out.2⟩
theorem Iy(hb:w.heap[sb]? =some (.cells C T (0,0)))(O:C[jo]? =some (.int .i64 joined))(U:C[jo+1]? =some (.string tail))(at_:Int)(ht:tail.size<=24)(aa:tail.size<=joined)(hj:joined<=1000000000000000000):
 Calls prog 189 #[.pointer (some ⟨sb,jo,none⟩),.int .i64 at_] w λx w'=>x= .returned (.tuple #[.string (gW joined tail at_).1,.int .i64 (gW joined tail at_).2])/\Kp (λ_=>False) w w':=by
 have x0:w.cell? ⟨sb,jo,none⟩=some (.int .i64 joined):=by rw[World.cell?,hb];exact O
 have E:=af (ae hb U);clear hb O U
 by_cases G:(joined:Int)<at_
 ·have D:gW joined tail at_=(⟨#[]⟩,14):=by unfold gW;rw[aq G]
  rw[D];clear D
  go_enter func189,ntmps189
  go_wp2;go_ret2;exact⟨rfl,Kp.refl _ _⟩
 by_cases J:at_<(joined:Int)-(tail.size:Int)
 ·have D:gW joined tail at_=(⟨#[]⟩,15):=by unfold gW;rw[ay G,aq J]
  rw[D];clear D
  have x1:w.cell? ⟨sb,jo+1,none⟩=some (.string tail):=by rw[World.cell?,E.out.1];exact E.out.2
  go_enter func189,ntmps189
  go_upto_region 3 with(fail)
  go_quiet (fail)
  rename_i nq;have F:=(Kp.refl (λ_=>False) w).drewN nq;go_wp2;go_ret2;exact⟨rfl,F⟩
 obtain⟨k,hk⟩:∃k:Nat,at_-((joined:Int)-(tail.size:Int))=k:=⟨(at_-((joined:Int)-(tail.size:Int))).toNat,by omega⟩
 have Z:k<=tail.size:=by omega
 by_cases X:8<tail.size-k
 ·have D:gW joined tail at_=(tail.extract k (k+8),0):=by unfold gW;rw[ay G,ay J,hk];simp[X]
  rw[D];clear D
  have x1:w.cell? ⟨sb,jo+1,none⟩=some (.string tail):=by rw[World.cell?,E.out.1];exact E.out.2
  have Y:=af (show(tail.extract k tail.size).extract 0 8=tail.extract k (k+8)by
   apply ky;simp[ByteArray.data_extract,Array.extract_extract];congr 1;omega)
  have I:(tail.extract k tail.size).size=tail.size-k:=by simp[ByteArray.size_extract]
  go_enter func189,ntmps189
  go_upto_region 3 with(fail)
  go_quiet (fail)
  rename_i nq;have F:=(Kp.refl (λ_=>False) w).drewN nq;have x1:(w.drewN nq).cell? _=_:=x1;go_wp2;go_ret2;exact⟨by rw[<-Y.out];rfl,F⟩
 have D:gW joined tail at_=(tail.extract k tail.size,0):=by unfold gW;rw[ay G,ay J,hk];simp[X]
 rw[D];clear D
 have x1:w.cell? ⟨sb,jo+1,none⟩=some (.string tail):=by rw[World.cell?,E.out.1];exact E.out.2
 have I:(tail.extract k tail.size).size=tail.size-k:=by simp[ByteArray.size_extract]
 go_enter func189,ntmps189
 go_upto_region 3 with(fail)
 go_quiet (fail)
 rename_i nq;have F:=(Kp.refl (λ_=>False) w).drewN nq;have x1:(w.drewN nq).cell? _=_:=x1;go_wp2;go_ret2;exact⟨rfl,F⟩
end
def putAt(a:Array Value)(D:Nat)(E:List Value):Array Value:=(a.toList.take D++E++a.toList.drop (D+E.length)).toArray
theorem PV(b o j:Nat):(⟨b,o,none⟩:Addr).add j=⟨b,o+j,none⟩:=by
 unfold Addr.add;split<;>simp_all
section
variable {P:Program}
theorem t_(g D:Nat)(t:TypeId):∀(I:List Value) (i:Nat) (E:Array Value) (w:World),w.heap[g]? =some (.cells E t (0,0))->D+i+I.length<=E.size->(∀v∈I,v.oneCell'=true)->
 (storeCells ⟨g,D,none⟩ I i).run P w= .ok () (w.setRow g (putAt E (D+i) I)):=by
 intro I
 induction I with
 |nil=>
  intro i E w G Z U
  have e:putAt E (D+i) []=E:=by simp[putAt]
  rw[e];have:=run_storeCells_from (P:=P) g t [] E.size E w G (by simp) (by simp);simpa[storeCells,List.take_of_length_le]using this
 |cons v rest Y=>?_
 intro i E w G Z U;simp only[eh]at Z
 have hi:D+i<E.size:=by omega
 have F:w.cell? ⟨g,D+i,none⟩=some E[D+i]:=by simp[World.cell?,G,hi]
 have J:w.frozen? ⟨g,D+i,none⟩=false:=by simp[World.frozen?,G]
 have dE:(store ((⟨g,D,none⟩:Addr).add i) v).run P w= .ok () (w.setRow g (E.setIfInBounds (D+i) v)):=by
  rw[PV,run_store P w _ v _ (U v (by simp)),F];simp[J,setCell_eq_setRow w g (D+i) E t (0,0) v G]
 have ih:=Y (i+1) (E.setIfInBounds (D+i) v) (w.setRow g (E.setIfInBounds (D+i) v)) (ax w g E _ t _ G) (by simp;omega) (λx hx=>U x (by simp[hx]));simp only[storeCells,jD,dE,jE,ih,setRow_setRow]
 congr 2
 unfold putAt
 congr 1
 apply eL;intro k;simp only[Array.toList_setIfInBounds,List.getElem?_append,List.length_take,jb,Array.length_toList,gu,eh,List.getElem?_take,List.getElem?_drop,List.getElem?_set]
 by_cases hk:k<D+i
 ·simp[show k<D+(i+1)by omega,show¬D+i=k by omega,hk,show k<E.size by omega,show k<min (D+i) E.size by omega,show k<min (D+i) E.size+(rest.length+1)by omega,show k<min (D+(i+1)) E.size by omega,show k<min (D+(i+1)) E.size+rest.length by omega]
 by_cases X:k=D+i
 ·subst X
  simp[show min (D+(i+1)) E.size=D+i+1 by omega,show min (D+i) E.size=D+i by omega,hi];intro h;omega
 have e1:min (D+(i+1)) E.size=D+i+1:=by omega
 have e2:min (D+i) E.size=D+i:=by omega
 rw[e1,e2];simp only[show¬k<D+i+1 by omega,show¬k<D+i by omega,bj]
 by_cases O:k<D+i+1+rest.length
 ·simp only[O,show k<D+i+(rest.length+1)by omega,aV]
  rw[show k-(D+i)=(k-(D+i+1))+1 by omega,gh]
 simp only[O,show¬k<D+i+(rest.length+1)by omega,bj];simp[show D+(i+1)+rest.length+(k-(D+i+1+rest.length))=k by omega,show D+i+(rest.length+1)+(k-(D+i+(rest.length+1)))=k by omega];intro h;omega
theorem vL(w:World)(g D:Nat)(t ty:TypeId)(E:Array Value)(l:List Value)(I:w.heap[g]? =some (.cells E t (0,0)))(hi:(P.info? ty).map (·.size)=some l.length)
 (J:D+l.length<=E.size) (G:∀v∈l,v.oneCell'=true):
 (storeVar ty ⟨g,D,none⟩ (.agg l.toArray)).run P w= .ok () (w.setRow g (putAt E D l)):=by
 have:=t_ (P:=P) g D t l 0 E w I (by omega) G
 cases F:P.info? ty with
 |none=>simp_all
 |some i=>?_
 have hs:l.length=i.size:=by simp[F]at hi;omega
 simp[storeVar,sizeOf,typeInfo,F,Value.cells,hs,this]
theorem lY{o:Oper}{a:Act}{w:World}{K:Act->World->Prop}{Q:Exit->Act->World->Prop}(ty:TypeId)(x y:Operand)(J:o.op= .store ty x y)
 (g D:Nat) (l:List Value) (O:a.eval x= .pointer (some ⟨g,D,none⟩)) (U:a.eval y= .agg l.toArray)
 (t:TypeId) (E:Array Value) (I:w.heap[g]? =some (.cells E t (0,0))) (hi:(P.info? ty).map (·.size)=some l.length)
 (F:D+l.length<=E.size) (G:∀v∈l,v.oneCell'=true)
 (h:K (a.put o.dst undef) (w.setRow g (putAt E D l))):o.wp P a w K Q:=by
 unfold Oper.wp execOp;simp only[J,O,U,Instr.storeAt,Instr.sureAddr,jD,k_,jE,vL w g D t ty E l I hi F G];exact h
theorem iu{G:Array Oper}{rest:List Oper}{o:Oper}{a:Act}{w:World}{Q:Exit->Act->World->Prop}(I:o.guard=none)(ty:TypeId)(x y:Operand)(U:o.op= .store ty x y)
 (g D:Nat) (l:List Value) (X:a.eval x= .pointer (some ⟨g,D,none⟩)) (Y:a.eval y= .agg l.toArray)
 (t:TypeId) (E:Array Value) (O:w.heap[g]? =some (.cells E t (0,0))) (hi:(P.info? ty).map (·.size)=some l.length)
 (F:D+l.length<=E.size) (J:∀v∈l,v.oneCell'=true)
 (h:wpList P G Q rest (a.put o.dst undef) (w.setRow g (putAt E D l))):wpList P G Q (o::rest) a w:=
 wpList_plain I λ_ hK=>lY ty x y U g D l X Y t E O hi F J (hK _ _ h)
end
section
variable {α:Type} (f:α->List Value) (n:Nat)
theorem qF:∀(l:List α),(∀a∈l,(f a).length=n)->(l.flatMap f).length=l.length*n:=by
 intro l
 induction l with
 |nil=>simp
 |cons a l D=>?_
 grind
theorem Fq:∀(l:List α) (u:Nat) (a b:α) (j:Nat) (D:List Value),(∀a∈l,(f a).length=n)->l[u]? =some a->j+D.length<=n->f b=(f a).take j++D++(f a).drop (j+D.length)->
 (l.flatMap f).take (u*n+j)++D++(l.flatMap f).drop (u*n+j+D.length)=(l.set u b).flatMap f:=by
 intro l
 induction l with
 |nil=>intro u a b j D E hu G hb;simp at hu
 |cons x l F=>?_
 intro u a b j D E hu G hb;have J:=E x (by simp)
 cases u with
 |zero=>
  simp at hu;subst hu;simp only[nH,List.set_cons_zero,Nat.zero_mul,gw];rw[hb,List.take_append_of_le_length (by omega),List.drop_append_of_le_length (by omega)];simp[List.append_assoc]
 |succ u=>?_
 have I:=F u a b j D (λy hy=>E y (by simp[hy])) (by simpa using hu) G hb;simp only[nH,List.set_cons_succ];rw[<-I,Nat.succ_mul,show u*n+n+j=(f x).length+(u*n+j)by omega,List.take_length_add_append,show(f x).length+(u*n+j)+D.length=(f x).length+(u*n+j+D.length)by omega,List.drop_length_add_append];simp[List.append_assoc]
theorem wR(l:List α)(u:Nat)(a b:α)(j:Nat)(D:List Value)(F:∀a∈l,(f a).length=n)(hu:l[u]? =some a)(E:j+D.length<=n)(hb:f b=(f a).take j++D++(f a).drop (j+D.length)):
 putAt (l.flatMap f).toArray (u*n+j) D=((l.set u b).flatMap f).toArray:=by
 grind[putAt,Fq]
theorem qG(l:List α)(u:Nat)(a b:α)(j:Nat)(v:Value)(D:∀a∈l,(f a).length=n)(hu:l[u]? =some a)(G:j<n)(hb:f b=(f a).set j v):
 (l.flatMap f).set (u*n+j) v=(l.set u b).flatMap f:=by
 have F:=D a (aM hu)
 have E:u*n+j<(l.flatMap f).length:=by
  rw[qF f n l D];have:=(aJ.1 hu).1
  calc u*n+j<u*n+n:=by omega
   _=(u+1)*n:=by rw[Nat.succ_mul]
   _<=l.length*n:=Nat.mul_le_mul_right _ (by omega)
 rw[<-Fq f n l u a b j [v] D hu (by simp;omega) (by rw[hb,List.set_eq_take_append_cons_drop,aq (by omega)];simp)];rw[List.set_eq_take_append_cons_drop,aq E];simp
theorem jh(l:List α)(u:Nat)(a:α)(j:Nat)(D:∀a∈l,(f a).length=n)(hu:l[u]? =some a)(E:j<n):(l.flatMap f)[u*n+j]? =(f a)[j]?:=by
 induction l generalizing u with
 |nil=>simp_all
 |cons x l G=>?_
 have F:=D x (by simp);rw[nH]
 cases u with
 |zero=>grind
 |succ u=>?_
 grind
end
theorem s6{w:World}{B g cap n size:Nat}{e:TypeId}{xs:List Value}(h:w.ownsRow B e size (.slice (some ⟨g,0,none⟩) n cap) n xs)(i:Nat)(v:Value):
 (w.setCell ⟨g,i,none⟩ v).ownsRow B e size (.slice (some ⟨g,0,none⟩) n cap) n (xs.set i v):=by
 refine⟨by rw[jb];exact h.1,?_⟩
 rcases h.2 with⟨x,_⟩|⟨U,E,D,e1,hb,O,F,G,I,J⟩
 ·simp_all
 simp only[aK,bq,dH]at e1;obtain⟨⟨rfl,_⟩,_,rfl⟩:=e1;exact .inr ⟨g,cap,D.setIfInBounds i v,rfl,hb,ak _ O,F,G,by simpa using I,by rw[Array.toList_setIfInBounds,List.take_set,J]⟩
namespace Ch
def wS:Sd:=⟨List.replicate 16 false,List.replicate 16 0,⟨#[]⟩,0,0,0⟩
def ee(l:List Vr):Sd:=match l.getLast? with|some v=>v.now|none=>wS
def qH(l:List Vr)(n:Int):List Vr×Bool:=match l.findIdx? (λv=>(v.num:Int)==n)with
 |some k=>(l.modify k (λv=>{v with pins:=v.pins+1}),true)
 |none=>(l,false)
theorem Fs{l:List Vr}{i:Nat}{v:Vr}{n:Int}(F:l[i]? =some v)(G:(v.num:Int)=n)(h:∀j u,j<i->l[j]? =some u->¬(u.num:Int)=n):qH l n=(l.set i {v with pins:=v.pins+1},true):=by
 obtain⟨D,E⟩:=aJ.1 F
 have e:l.findIdx? (λv=>(v.num:Int)==n)=some i:=by
  rw[List.findIdx?_eq_some_iff_getElem];grind
 unfold qH;rw[e];simp only[l9,dx];apply eL;grind
theorem BO{l:List Vr}{n:Int}(h:∀v∈l,¬(v.num:Int)=n):qH l n=(l,false):=by
 grind[qH]
def AG(l:List Vr)(i:Nat):List Value:=(l.take i).map (λv=>.int .i64 v.num)++List.replicate (l.length-i) (.int .i64 0)
theorem PW(l:List Vr):(madeCells #[Value.int .i64 0] l.length).toList=AG l 0:=by
 unfold AG;simp only[List.take_zero,List.map_nil,jG,Nat.sub_zero];apply eL;intro j;unfold madeCells;grind
theorem SR{l:List Vr}{i:Nat}(h:i<l.length):(AG l i)[i]? =some (.int .i64 0):=by
 grind[AG]
theorem PX{l:List Vr}{i:Nat}{v:Vr}(D:l[i]? =some v):(AG l i).set i (.int .i64 v.num)=AG l (i+1):=by
 obtain⟨hi,e⟩:=aJ.1 D;unfold AG;rw[List.set_append_right _ _ (by rw[gx,List.length_take];omega),show l.take (i+1)=l.take i++[v]by rw[<-e,List.take_append_getElem hi]];simp only[nG,List.map_cons,List.map_nil,iY,List.singleton_append,gx,List.length_take,show min i l.length=i by omega,Nat.sub_self];rw[show l.length-i=(l.length-(i+1))+1 by omega,List.replicate_succ,List.set_cons_zero]
theorem MP(l:List Vr):AG l l.length=l.map (λv=>.int .i64 v.num):=by unfold AG;simp
end Ch
theorem JO{v:Vr}(h:v.now.Wf)(n:Nat):rS {v with pins:=n}=(rS v).set 37 (.int .i64 n):=by
 simp_all[rS,cP]
theorem SU{l:List Vr}{v:Vr}(h:l[l.length-1]? =some v):ee l=v.now:=by
 grind[ee]
theorem JP{v:Vr}:∀j u,(aY v.now)[j]? =some u->(rS v)[1+j]? =some u:=by
 grind[rS]
section
variable (w:World) {B sb so:Nat} {C:Array Value} {T:TypeId} {made:Nat} {kept:List Vr} {kv:Value}
theorem zC(h:uU w B sb so C T made kept kv)(hk:0<kept.length)(ap:kept.length<=1000):
 Calls prog 259 #[.pointer (some ⟨sb,so,none⟩)] w λx w'=>x= .returned (.agg (aY (ee kept)).toArray)/\Kp (λ_=>False) w w':=by
 obtain⟨ds,Z,kJ⟩:=iM
 obtain⟨v,hv⟩:∃v,kept[kept.length-1]? =some v:=⟨_,ar (by omega)⟩
 have HL:=af (SU hv);have G:=h.wf v (aM hv);have K1:Kp (λ_=>False) w (w.alloc (.cells cO 95)):=(Kp.refl _ _).alloc _;have E:=an w (.cells cO 95);have J:=h.au K1;obtain⟨g,cap,r8⟩:=J.rowAt hk;have X:=J.cells r8 hv
 have Y:∀j u,(aY v.now)[j]? =some u->(w.alloc (.cells cO 95)).cell? ⟨g,((kept.length:Int)-1).toNat*38+1+j,none⟩=some u:=by
  intro j u hj;have:=X (1+j) u (JP j u hj);rw[show((kept.length:Int)-1).toNat=kept.length-1 by omega];rw[Nat.add_assoc];exact this
 have x1:=J.x1;rw[r8]at x1
 have sI:(prog.info? 95).map (·.size)=some (aY v.now).length:=by rw[cP G];exact fR
 have aa:=iT G;have sS:=jQ G;have sO:=oh v.now
 have aI:¬(kept.length:Int)=0:=by omega
 have am:g≠w.heap.size:=by
  intro e;have hr:=J.row;rw[r8]at hr;obtain⟨ad,hc⟩:=bz hr (k:=g) rfl;rw[e,E]at hc;simp at hc
 have O:w.heap[g]? ≠none:=by
  have hr:=h.row;rw[r8]at hr;obtain⟨ad,hc⟩:=bz hr (k:=g) rfl;rw[hc];simp
 have HZ:=af (show sb≠w.heap.size by have:=aR h.bO;omega);have HH:=af (ae K1 O);clear h J K1 O X hv r8;generalize Ao:(aY v.now)=F at*;have Of:=af Ao;clear Ao
 go_enter func259,ntmps259
 go_upto_region 1 with(fail)
 generalize w.alloc (.cells cO 95)=I at*
 go_upto_region 3 with(fail)
 have D:I.drew.cell? ⟨sb,so+1,none⟩=some (.slice (some ⟨g,0,none⟩) kept.length cap)/\(∀j u,F[j]? =some u->I.drew.cell? ⟨g,((kept.length:Int)-1).toNat*38+1+j,none⟩=some u):=⟨x1,Y⟩
 have hw:IntKind.i64.wrap ((kept.length:Int)-1)=(kept.length:Int)-1:=by rw[nW];omega
 have aj:(1:Int)<=(kept.length:Int):=by omega
 have Ya:¬(kept.length:Int)<=(kept.length:Int)-1:=by omega
 refine bf (λw'=>w'.cell? ⟨sb,so+1,none⟩=some (.slice (some ⟨g,0,none⟩) kept.length cap)/\(∀j u,F[j]? =some u->w'.cell? ⟨g,((kept.length:Int)-1).toNat*38+1+j,none⟩=some u)) (by kernel_rfl) ?_;refine bM 0 10 (.pointer (some ⟨sb,so,none⟩)) D ?_;refine bM 1 11 (.pointer (some ⟨sb,so,none⟩)) D ?_;refine bM 2 12 (.pointer (some ⟨sb,so+1,none⟩)) D ?_;refine eG 3 13 (.slice (some ⟨g,0,none⟩) kept.length cap) rfl (λw' hS=>by simp[execOp,Act.eval,go_sem,hS.1]) D ?_;refine bM 4 14 (.pointer (some ⟨sb,so,none⟩)) D ?_;refine bM 5 15 (.pointer (some ⟨sb,so,none⟩)) D ?_;refine bM 6 16 (.pointer (some ⟨sb,so+1,none⟩)) D ?_;refine eG 7 17 (.slice (some ⟨g,0,none⟩) kept.length cap) rfl (λw' hS=>by simp[execOp,Act.eval,go_sem,hS.1]) D ?_;refine bM 8 18 (.int .i64 kept.length) D ?_;refine eG 9 19 (.int .i64 ((kept.length:Int)-1)) rfl (λw' _=>by simp[execOp,Act.eval,go_sem,hw]) D ?_;refine eG 10 20 (.pointer (some ⟨g,((kept.length:Int)-1).toNat*38,none⟩)) rfl (λw' _=>by simp[execOp,Act.eval,go_sem,aj,Ya]) D ?_;refine bM 11 21 (.pointer (some ⟨g,((kept.length:Int)-1).toNat*38+1,none⟩)) D ?_
 refine eG 12 22 (.agg F.toArray) rfl (λw' hS=>eo 95 (.tmp 21) rfl g (((kept.length:Int)-1).toNat*38+1) rfl F ds hS.2 Z kJ sI) D ?_;have KF:Kp _ _ (I.drew.setRow w.heap.size F.toArray):=(HH.out.1.drewN 1).setRow (λx=>by omega) _;have j7:=ax I.drew w.heap.size cO F.toArray 95 (0,0) E
 have U:∀k i,k≠w.heap.size->(I.drew.setRow w.heap.size F.toArray).cell? ⟨k,i,none⟩=I.drew.cell? ⟨k,i,none⟩:=by
  intro k i hk;unfold World.cell?;simp only;rw[cG _ _ _ _ hk]
 have ao:=HZ.out;refine cK 13 (by kernel_rfl) rfl rfl 95 (.tmp 2) (.tmp 22) rfl rfl w.heap.size F.toArray rfl rfl 95 cO E aa (by rw[sS];rfl) sO ⟨by rw[U _ _ ao];exact D.1,λj u hj=>by rw[U _ _ am];exact D.2 j u hj⟩ ?_;refine bF (by kernel_rfl) (bG ?_) _
 go_wp2_with fail
 refine uu j7 Z kJ aa ?_;rw[HL.out,Of.out];exact⟨rfl,KF⟩
theorem Ft(h:uU w B sb so C T made kept kv)(hk:kept.length<=1000):
 Calls prog 138 #[.pointer (some ⟨sb,so,none⟩)] w λx w'=>x= .returned (.slice (some ⟨w.heap.size,0,none⟩) kept.length kept.length)/\w'.ownsRow w.heap.size 3 1 (.slice (some ⟨w.heap.size,0,none⟩) kept.length kept.length) kept.length (kept.map λv=>.int .i64 v.num)/\Kp (λ_=>False) w w':=by
 obtain⟨i0,hi,Z,aa,ad⟩:=bY lX;obtain⟨ao,cap,r8⟩:=bn h.row;have x1:=h.x1;rw[r8]at x1;have HH:=af h;clear h
 go_enter func138,ntmps138
 go_wp2_with (at_make;refine wpList_make_full w rfl (.tmp 9) (.tmp 9) 38 rfl w.heap.size 3 i0 (.int .i64 0) 1 underlying38 hi Z aa .i64 .i64 kept.length kept.length kept.length rfl rfl rfl rfl ?c1 ?c2 (aC _) ?_)
 case c1=>rw[ad];omega
 case c2=>unfold maxLen;omega
 intro w4 O g4;have K4:Kp (λ_=>False) w w4:=(Kp.refl _ _).grown g4 (λi hi _=>by simp at hi);rw[PW kept]at O;have ap:w.heap.size<w4.heap.size:=(O.lt _ rfl).2;generalize hg:w.heap.size=g at*;clear g4 x1
 go_wp2_with fail
 go_loopw [4] (λiv wr=>∃i:Nat,iv= .int .i64 i/\i<=kept.length/\wr.ownsRow g 3 1 (.slice (some ⟨g,0,none⟩) kept.length kept.length) kept.length (AG kept i)/\Kp (λk=>k=g) w4 wr) (λiv _=>kept.length-(intOf iv).toNat)
 case atStart=>exact⟨0,rfl,aG _,O,Kp.refl _ _⟩
 case round=>
  obtain⟨i,rfl,aI,E,I⟩:=hrel;have X:=K4.trans' I (λi hi x=>by omega)
  by_cases F:i<kept.length
  ·have G:(i:Int)<(kept.length:Int):=by omega
   have J:=HH.out.au X;obtain⟨g2,aj,U⟩:=J.rowAt (by omega)
   obtain⟨v,Y⟩:∃v,kept[i]? =some v:=⟨_,ar F⟩
   have y1:=J.x1;rw[U]at y1;have y2:wr.cell? ⟨g2,i*38,none⟩=_:=J.cells U Y 0 _ (vp v);have hc:=E.cellAt i (by omega);rw[SR F]at hc
   have hf:wr.frozen? ⟨g,i,none⟩=false:=by
    obtain⟨am,LC⟩:=bz E (k:=g) rfl;simp[World.frozen?,LC]
   have D:=s6 E i (.int .i64 v.num);rw[PX Y]at D;have K6:Kp _ _ (wr.setCell ⟨g,i,none⟩ (.int .i64 v.num)):=I.setCell (p:=⟨g,i,none⟩) (λ_=>rfl) _;have HN:=af (ae D K6);clear D K6 E I X J Y U;go_wp2
   go_roundw
   case rel=>exact⟨i+1,by go_num,by omega,HN.out.1,HN.out.2⟩
   case measure=>simp[intOf];omega
  have G:¬(i:Int)<(kept.length:Int):=by omega
  obtain rfl:i=kept.length:=by omega
  rw[MP]at E;clear I K4 O;go_wp2;go_ret;exact⟨rfl,E,X⟩
theorem SW(h:uU w B sb so C T made kept kv)(hk:kept.length<=1000)(n:Int)(hn:∀v∈kept,v.pins<=1000000000000000):
 Calls prog 227 #[.pointer (some ⟨sb,so,none⟩),.int .i64 n] w λx w'=>x= .returned (.bool (qH kept n).2)/\uU w' B sb so C T made (qH kept n).1 kv/\Kp (λk=>kv.ownBlock=some k) w w':=by
 have D:=af (ae h hn);clear h hn
 go_enter func227,ntmps227
 go_wp2_with fail
 go_loopw [5] (λiv wr=>∃i:Nat,iv= .int .i64 i/\i<=kept.length/\wr=w/\Hid (∀j v,j<i->kept[j]? =some v->¬(v.num:Int)=n)) (λiv _=>kept.length-(intOf iv).toNat)
 case atStart=>exact⟨0,rfl,aG _,rfl,af (λj v hj=>by omega)⟩
 case round=>
  obtain⟨i,rfl,ap,rfl,O⟩:=hrel;have x1:=D.out.1.x1
  by_cases aa:i<kept.length
  ·have Y:(i:Int)<(kept.length:Int):=by omega
   obtain⟨g,cap,E⟩:=D.out.1.rowAt (by omega)
   obtain⟨v,F⟩:∃v,kept[i]? =some v:=⟨_,ar aa⟩
   rw[E]at x1;have J:=D.out.1.wf v (aM F);have y0:wr.cell? ⟨g,i*38,none⟩=_:=D.out.1.cells E F 0 _ (vp v);have aI:=D.out.1.cells E F 37 _ (yx J);have hp:=D.out.2 v (aM F)
   by_cases I:(v.num:Int)=n
   ·have ad:((v.num:Int)==n)=true:=by simp[I]
    have HQ:=af I;have HP:=af (Fs F I O.out);have hr:=D.out.1.row;rw[E]at hr
    have hf:wr.frozen? ⟨g,i*38+37,none⟩=false:=by
     obtain⟨aj,LC⟩:=bz hr (k:=g) rfl;simp[World.frozen?,LC]
    have G:=s6 hr (i*38+37) (.int .i64 ((v.pins:Int)+1))
    have am:g≠sb:=by
     have:=D.out.1.Oq;rw[E]at this;intro e;subst e;exact this rfl
    have K6:Kp _ _ (wr.setCell ⟨g,i*38+37,none⟩ (.int .i64 ((v.pins:Int)+1))):=(Kp.refl (λk=>kv.ownBlock=some k) wr).setCell (p:=⟨g,i*38+37,none⟩) (λ_=>by rw[E];rfl) _;have X:=K6.at_ D.out.1.bO D.out.1.Oq
    have xI:uU (wr.setCell ⟨g,i*38+37,none⟩ (.int .i64 ((v.pins:Int)+1))) B sb so C T made (kept.set i {v with pins:=v.pins+1}) kv:=by
     refine⟨X,D.out.1.c0,D.out.1.c1,?_,?_,D.out.1.ne⟩
     ·rw[E,jb]
      have e:=qG rS 38 kept i v {v with pins:=v.pins+1} 37 (.int .i64 ((v.pins:Int)+1)) (λa U=>rj (D.out.1.wf a U)) F (by omega) (JO J (v.pins+1));unfold il at G⊢;rw[e]at G;exact G
     intro a U
     rcases pX U with U|rfl
     ·exact D.out.1.wf a U
     exact J
    have Z:=af (ae xI K6);clear xI K6 X G hr O I E;go_wp2;go_ret;rw[HP.out];exact⟨rfl,Z.out.1,Z.out.2⟩
   have ad:((v.num:Int)==n)=false:=by simp[I]
   have Z:=af (show∀j u,j<i+1->kept[j]? =some u->¬(u.num:Int)=n by
    intro j u hj hu
    by_cases e:j=i
    ·subst e;rw[F]at hu;simp at hu;subst hu;exact I
    exact O.out j u (by omega) hu)
   clear O I F E;go_wp2
   go_roundw
   case rel=>exact⟨i+1,by go_num,by omega,by first|rfl|trivial,Z⟩
   case measure=>simp[intOf];omega
  have Y:¬(i:Int)<(kept.length:Int):=by omega
  obtain rfl:i=kept.length:=by omega
  obtain⟨ao,cap,E⟩:=bn D.out.1.row;rw[E]at x1
  have HP:=af (BO (λv F=>by
   obtain⟨j,hj⟩:=List.mem_iff_getElem?.1 F
   exact O.out j v (aJ.1 hj).1 hj))
  clear O E;go_wp2;go_ret;rw[HP.out];exact⟨rfl,D.out.1,Kp.refl _ _⟩
end
namespace Ch
def AH(made:Nat)(l:List Vr)(k:Nat)(v:Vr):List Vr:=lx made (l.set k {v with pins:=v.pins-1})
end Ch
section
variable (w:World) {B sb so:Nat} {C:Array Value} {T:TypeId} {made:Nat} {kept:List Vr} {kv:Value}
def MQ(w w':World)(B sb so:Nat)(C:Array Value)(T:TypeId)(kv:Value)(l:List Vr):Prop:=
 ∃D,w'.heap[sb]? =some (.cells (C.setIfInBounds (so+1) D) T (0,0))/\w'.ownsRow B 261 38 D l.length (il l)/\(∀k,D.ownBlock=some k->w.heap.size<=k)/\Kp (λk=>k=sb\/kv.ownBlock=some k) w w'
def uM(kept:List Vr)(k:Nat)(v:Vr)(i:Nat):List Vr:=if i<=k then kept else kept.set k {v with pins:=v.pins-1}
theorem PY(kept:List Vr)(k:Nat)(v:Vr)(i:Nat):(uM kept k v i).length=kept.length:=by unfold uM;split<;>simp
def zD(k:Nat)(v:Vr)(i:Nat):Sd:=if i<=k then wS else v.now
theorem SX{kept:List Vr}{k:Nat}{v:Vr}{i:Nat}:i≠k->(uM kept k v i)[i]? =kept[i]?:=by
 grind[uM]
theorem nD:wS.Wf:=⟨by decide,by decide⟩
theorem Fu(h:uU w 0 sb so C T made kept kv)(hk:kept.length<=1000)(bc:made<=1000000000000000)(k:Nat)(v:Vr)(hv:kept[k]? =some v)(hp:0<v.pins)(hd:∀j u,kept[j]? =some u->u.num=v.num->j=k)(hn:∀v∈kept,v.num<=1000000000000000/\v.pins<=1000000000000000):
 Calls prog 188 #[.pointer (some ⟨sb,so,none⟩),.int .i64 v.num] w λx w'=>x= .returned (.agg (aY v.now).toArray)/\MQ w w' 0 sb so C T kv (AH made kept k v):=by
 obtain⟨ds,aa,kJ⟩:=iM
 have Uf:((w.alloc (.cells cO 95)).alloc (.cells cO 95)).heap[w.heap.size]? =some (.cells cO 95):=by
  rw[cQ _ _ _ (by simp)];exact an _ _
 have Yb:((w.alloc (.cells cO 95)).alloc (.cells cO 95)).heap[w.heap.size+1]? =_:=nV w _ _;have K1:Kp (λ_=>False) w ((w.alloc (.cells cO 95)).alloc (.cells cO 95)):=((Kp.refl _ _).alloc _).alloc _;have h1:=h.au K1;have bb:=(aJ.1 hv).1;obtain⟨g,cap,G⟩:=h.rowAt (by omega)
 have O:kv.ownBlock=some g:=by rw[G];rfl
 have a8:=aR h.bO
 have a9:g<w.heap.size:=by
  obtain⟨a0,hc⟩:=bz h.row O;exact aR hc
 have a2:sb≠g:=by intro e;subst e;exact h.Oq O
 have F:=h.wf v (aM hv);have sI:=iT F;have sS:=jQ F;have sO:=oh v.now
 have a6:(prog.info? 95).map (·.size)=some (aY v.now).length:=by rw[cP F];exact fR
 have bi:=hn v (aM hv);have HH:=af (ae h (ae hn (ae hd (ae K1 hv))));have HR:=af Uf;clear h hn hd Uf
 go_enter func188,ntmps188
 go_upto_region 2 with(fail)
 have a7:w.heap.size+2<=((w.alloc (.cells cO 95)).alloc (.cells cO 95)).heap.size:=by simp
 generalize (w.alloc (.cells cO 95)).alloc (.cells cO 95)=w1 at*
 go_wp2_with fail
 go_loopw [6] (λiv wr=>∃i:Nat,iv= .int .i64 i/\i<=kept.length/\uU wr 0 sb so C T made (uM kept k v i) kv/\wr.heap[w.heap.size+1]? =some (.cells (aY (zD k v i)).toArray 95 (0,0))/\Kp (λj=>j=g\/j=w.heap.size+1) w1 wr) (λiv _=>kept.length-(intOf iv).toNat)
 case atStart=>exact⟨0,rfl,aG _,by unfold uM;rw[aq (aG _)];exact h1,by unfold zD;rw[aq (aG _)];exact Yb,Kp.refl _ _⟩
 case round=>
  obtain⟨i,rfl,ba,D,E,KW⟩:=hrel;have x1:=D.x1;have J:=PY kept k v i
  by_cases a4:i<kept.length
  ·have ao:(i:Int)<(kept.length:Int):=by omega
   rw[G]at x1
   by_cases ad:i=k
   ·subst ad
    have e1:uM kept i v i=kept:=by unfold uM;rw[aq (aC _)]
    have e2:uM kept i v (i+1)=kept.set i {v with pins:=v.pins-1}:=by unfold uM;rw[ay (by omega)]
    have e3:zD i v i=wS:=by unfold zD;rw[aq (aC _)]
    have e4:zD i v (i+1)=v.now:=by unfold zD;rw[ay (by omega)]
    rw[e1]at D;rw[e3]at E;have y0:wr.cell? ⟨g,i*38,none⟩=_:=D.cells G HH.out.2.2.2.2 0 _ (vp v);have bm:=D.cells G HH.out.2.2.2.2 37 _ (yx F);have X:=D.row;rw[G]at X
    have hf:wr.frozen? ⟨g,i*38+37,none⟩=false:=by
     obtain⟨a0,LC⟩:=bz X (k:=g) rfl;simp[World.frozen?,LC]
    have U:=s6 X (i*38+37) (.int .i64 ((v.pins:Int)-1));have K6:Kp _ _ (wr.setCell ⟨g,i*38+37,none⟩ (.int .i64 ((v.pins:Int)-1))):=(Kp.refl (λj=>j=g) wr).setCell (p:=⟨g,i*38+37,none⟩) (λ_=>rfl) _;have am:=K6.at_ D.bO a2;have aO:=K6.at_ E (by omega)
    have ep:((v.pins-1:Nat):Int)=(v.pins:Int)-1:=by omega
    have xI:uU (wr.setCell ⟨g,i*38+37,none⟩ (.int .i64 ((v.pins:Int)-1))) 0 sb so C T made (kept.set i {v with pins:=v.pins-1}) kv:=by
     refine⟨am,D.c0,D.c1,?_,?_,D.ne⟩
     ·rw[G,jb]
      have e:=qG rS 38 kept i v {v with pins:=v.pins-1} 37 (.int .i64 ((v.pins:Int)-1)) (λa ha=>rj (D.wf a ha)) HH.out.2.2.2.2 (by omega) (by rw[<-ep];exact JO F (v.pins-1));unfold il at U⊢;rw[e]at U;exact U
     intro a ha
     rcases pX ha with ha|rfl
     ·exact D.wf a ha
     exact F
    have K7:=KW.trans' K6 (λj _ x=>.inl x);have x6:=xI.x1;rw[G]at x6
    have a1:∀j u,(aY v.now)[j]? =some u->(wr.setCell ⟨g,i*38+37,none⟩ (.int .i64 ((v.pins:Int)-1))).cell? ⟨g,i*38+1+j,none⟩=some u:=by
     intro j u hj;have a3:=JP (v:={v with pins:=v.pins-1}) j u hj;have:=xI.cells (k:=i) (v:={v with pins:=v.pins-1}) (by rw[G,jb]) (by rw[jF (by omega)]) (1+j) u a3;rw[Nat.add_assoc];exact this
    have HN:=af (ae xI (ae aO K7));clear U X K6 am E KW D
    go_upto_region 7 with(fail)
    generalize wr.setCell ⟨g,i*38+37,none⟩ (.int .i64 ((v.pins:Int)-1))=w6 at*;have Z:=HN.out.1;have Y:Kp _ _ (w6.setRow (w.heap.size+1) (aY v.now).toArray):=(Kp.refl (λj=>j=w.heap.size+1) w6).setRow (λ_=>rfl) _
    have Yc:uU (w6.setRow (w.heap.size+1) (aY v.now).toArray) 0 sb so C T made (kept.set i {v with pins:=v.pins-1}) kv:=
     ⟨Y.at_ Z.bO (by omega),Z.c0,Z.c1,Y.owns Z.row (λj e x=>by rw[O]at e;simp at e;omega),Z.wf,Z.ne⟩
    have Ug:=ax w6 (w.heap.size+1) _ (aY v.now).toArray 95 (0,0) HN.out.2.1;have Ge:=HN.out.2.2.trans' Y (λj _ x=>.inr x);have aS:=HN.out.2.1;have I:=af (ae Yc (ae Ug Ge));clear Z Y Yc Ug Ge HN G;generalize Ao:(aY v.now)=SL at*;have Of:=af Ao;clear Ao
    go_wp2_with (first|refine cH rfl 95 (.tmp 43) rfl g (i*38+1) rfl SL ds a1 aa kJ a6 ?_|refine cj SL.toArray aS sI (by rw[sS];rfl) sO ?_)
    go_roundw
    case rel=>exact⟨i+1,by go_num,by omega,by rw[e2];exact I.out.1,by rw[e4,Of.out];exact I.out.2.1,I.out.2.2⟩
    case measure=>simp[intOf];omega
   obtain⟨u,hu⟩:∃u,kept[i]? =some u:=⟨_,ar a4⟩
   have aj:=(SX (kept:=kept) (k:=k) (v:=v) ad).trans hu;have y0:wr.cell? ⟨g,i*38,none⟩=_:=D.cells (by rw[J];exact G) aj 0 _ (vp u)
   have be:((u.num:Int)==(v.num:Int))=false:=by
    have:u.num≠v.num:=λe=>ad (HH.out.2.2.1 i u hu e)
    simp;omega
   have e2:uM kept k v (i+1)=uM kept k v i:=by
    unfold uM
    by_cases h:i<=k
    ·rw[aq h,aq (by omega)]
    rw[ay h,ay (by omega)]
   have e4:zD k v (i+1)=zD k v i:=by
    unfold zD
    by_cases h:i<=k
    ·rw[aq h,aq (by omega)]
    rw[ay h,ay (by omega)]
   have I:=af (ae D (ae E KW));have HE:=af (ae e2 e4);clear D E KW G aj hu e2 e4 J;go_wp2
   go_roundw
   case rel=>exact⟨i+1,by go_num,by omega,by rw[HE.out.1];exact I.out.1,by rw[HE.out.2];exact I.out.2.1,I.out.2.2⟩
   case measure=>simp[intOf];omega
  have ao:¬(i:Int)<(kept.length:Int):=by omega
  obtain rfl:i=kept.length:=by omega
  rw[G]at x1
  have e1:uM kept k v kept.length=kept.set k {v with pins:=v.pins-1}:=by unfold uM;rw[ay (by omega)]
  have e3:zD k v kept.length=v.now:=by unfold zD;rw[ay (by omega)]
  rw[e1]at D;rw[e3]at E
  have ET:=af (DQ _ D (aG _) (by simp;omega) (by omega) (by
   intro u hu
   rcases pX hu with hu|rfl
   ·exact HH.out.2.1 u hu
   have:=HH.out.2.1 v (aM hv);simp only;omega))
  have I:=af (ae E KW);have bk:=KW.size;clear E KW D e1 e3 G J
  go_wp2_with fail
  refine hm ET ?_;rintro x Zb ⟨rfl,oB,q1,q2,q3,q4⟩;have Yd:=q4.at_ I.out.1 (by omega);have a5:=HR.out;have Ye:=q4.at_ (I.out.2.at_ a5 (by omega)) (by omega);have KA:Kp (λj=>j=sb\/kv.ownBlock=some j) _ _:=((HH.out.2.2.2.1.mono (λ_ _ x=>x.elim)).trans' I.out.2 (λj hj x=>x.elim (λx=>.inr (by rw[x];exact O)) (λx=>by omega))).trans' q4 (λj _ x=>.inl x);have KB:=KA.setRow (g:=w.heap.size) (λx=>by omega) (aY v.now).toArray;have Y:Kp _ _ (Zb.setRow w.heap.size (aY v.now).toArray):=(Kp.refl (λj=>j=w.heap.size) Zb).setRow (λ_=>rfl) _;have ap:=Y.at_ q1 (by omega);have aI:=Y.owns q2 (λj e x=>by have:=q3 j e;omega);have j7:=ax Zb w.heap.size _ (aY v.now).toArray 95 (0,0) Ye;have HG:=af (ae ap (ae aI (ae (λj e=>bA (show w.heap.size<=wr.heap.size by omega) (q3 j e)) KB)));clear q1 q2 q3 q4 ap aI KA KB Y ET I;generalize Ao:(aY v.now).toArray=SA at*
  go_wp2_with (first|refine jO Yd aa kJ sI ?_|refine cj SA Ye sI (by rw[sS];rfl) sO ?_)
  refine uu j7 aa kJ sI ?_;exact⟨by rw[Ao],oB,HG.out.1,HG.out.2.1,HG.out.2.2.1,HG.out.2.2.2⟩
end
namespace Ch
structure Rp where
 err:Int
 kZ:Int
 idx:Int
 next:Int
 st:As
 text:ByteArray
def dT:Rp:=⟨0,0,0,0,TC,⟨#[]⟩⟩
def gC:Tk:=⟨0,⟨#[]⟩,0,false,0,0,wS,⟨#[]⟩,0,0⟩
def kj(x:Sv)(s:Sd)(out:ByteArray):Sv:=
 {x with made:=x.made+1,kept:=lx (x.made+1) (x.kept++[⟨x.made,s,0⟩]),joined:=x.joined+out.size,tail:=zB x.tail out}
end Ch
def bJ(r:Rp):Array Value:=#[.int .i64 r.err,.int .i64 r.kZ,.int .i64 r.idx,.int .i64 r.next,.string r.st.act,.string r.st.cd,.string r.st.tm,.int .i64 r.st.x,.int .i64 r.st.y,.int .i64 r.st.z,.string r.text]
def Gl(t:Tk):List Value:=[.int .i64 t.kind,.string t.events,.int .i64 t.at_,.bool t.drawn,.int .i64 t.bR,.int .i64 t.aw]
def QM(t:Tk):List Value:=[.string t.out,.int .i64 t.steps,.int .i64 t.pinned]
def kn(t:Tk):List Value:=Gl t++(aY t.now++QM t)
def cU(l:List Tk):List Value:=l.flatMap kn
theorem eW{t:Tk}(h:t.now.Wf):(kn t).length=45:=by simp[kn,Gl,QM,cP h]
theorem Fv:(kn gC).toArray=Ae:=rfl
theorem my{t:Tk}(h:t.now.Wf)(j:Nat):(kn t)[42+j]? =(QM t)[j]?:=by
 unfold kn;rw[kr (by simp[Gl];omega),kr (by simp[Gl,cP h];omega)]
 grind[Gl,cP]
theorem s7{t t':Tk}(h:t.now.Wf)(e1:Gl t'=Gl t)(e2:t'.now=t.now)(j:Nat)(v:Value)(e3:QM t'=(QM t).set j v):kn t'=(kn t).set (42+j) v:=by
 unfold kn;grind[Gl,cP]
theorem s8{t t':Tk}(e1:QM t'=QM t)(e2:t'.now=t.now)(j:Nat)(D:j<6)(v:Value)(e3:Gl t'=(Gl t).set j v):kn t'=(kn t).set j v:=by
 grind[kn,Gl]
theorem JQ{t:Tk}:∀j u,(aY t.now)[j]? =some u->(kn t)[6+j]? =some u:=by
 intro j u h;unfold kn;grind[Gl]
theorem uN{t t':Tk}(h:t.now.Wf)(D:t'.now.Wf)(e1:Gl t'=Gl t)(e2:QM t'=QM t):kn t'=(kn t).take 6++aY t'.now++(kn t).drop (6+(aY t'.now).length):=by
 simp_all[Gl,kn,cP]
theorem C0(t:Tk):∀u∈kn t,u.oneCell'=true:=by
 intro u hu;unfold kn at hu
 rcases cB.1 hu with hu|hu
 ·simp only[Gl,dP,hY,h_]at hu
  rcases hu with rfl|rfl|rfl|rfl|rfl|rfl<;>rfl
 rcases cB.1 hu with hu|hu
 ·grind[qx]
 simp only[QM,dP,hY,h_]at hu
 rcases hu with rfl|rfl|rfl<;>rfl
theorem cE(r:Rp):(bJ r).all (λx=>x.oneCell')=true:=by
 apply gN.2;intro x D;simp only[bJ,lZ,dP,hY,h_]at D
 rcases D with rfl|rfl|rfl|rfl|rfl|rfl|rfl|rfl|rfl|rfl|rfl<;>rfl
theorem aQ:(prog.info? 64).map (·.size)=some 11:=by kernel_rfl
theorem mz:∃d,prog.underlying 64=some d/\dU d=true:=⟨_,underlying64,rfl⟩
theorem Iz:(prog.info? 173).map (·.size)=some 45:=by kernel_rfl
theorem Yf:∃d,prog.underlying 173=some d/\dU d=true:=⟨_,underlying173,rfl⟩
theorem VN:(prog.info? 173).map (λi=>(i.zero,i.size,i.bytes))=some (some (.agg Ae),45,160):=by kernel_rfl
structure Pc where
 a:Value
 b:Value
 c:Value
 d:Value
 e:Value
def r9(pc:Pc)(x:Sv)(kv:Value)(tb:Nat):Array Value:=
 #[pc.a,pc.b,pc.c,pc.d,pc.e,.int .i64 x.made,kv,.int .i64 x.joined,.string x.tail,.slice (some ⟨tb,0,none⟩) x.ah.length x.ah.length,.int .i64 x.aU,.int .i64 x.turn]
structure eX(w:World)(xb tb:Nat)(T:TypeId)(pc:Pc)(ol:Ol)(x:Sv)(kv:Value):Prop where
 bO:w.heap[xb]? =some (.cells (r9 pc x kv tb) T (0,0))
 row:w.ownsRow 0 261 38 kv x.kept.length (il x.kept)
 rN:w.heap[tb]? =some (.cells (cU x.ah).toArray 173 (0,0))
 wf:∀v∈x.kept,v.now.Wf
 tw:∀t∈x.ah,t.now.Wf
 ty:T=136\/T=138
 pl:∃B lt lb,Dh w B ol pc.c pc.d pc.e lt lb
def xo(xb tb:Nat)(kv:Value)(k:Nat):Prop:=k=xb\/k=tb\/kv.ownBlock=some k
def g_(w w':World)(xb tb:Nat)(T:TypeId)(pc:Pc)(ol:Ol)(kv:Value)(x':Sv):Prop:=
 ∃D,eX w' xb tb T pc ol x' D/\(∀k,D.ownBlock=some k->kv.ownBlock=some k\/w.heap.size<=k)/\Kp (xo xb tb kv) w w'
def C2(e:TypeId):Prop:=e=155\/e=209\/e=282\/e=255
theorem Dh.PZ{w w':World}{S:Nat->Prop}{B:Nat}{ol:Ol}{sv tv bv:Value}{lt:List (Tr×Value)}{lb:List (Bl×Value)}(F:Dh w B ol sv tv bv lt lb)(k:Kp S w w')
 (hs:∀i E e,w.heap[i]? =some (.cells E e (0,0))->C2 e->¬S i):Dh w' B ol sv tv bv lt lb:=by
 have D:∀{base e size v n xs},w.ownsRow base e size v n xs->C2 e->∀i,v.ownBlock=some i->¬S i:=by
  grind[bz]
 exact⟨k.owns F.ai (D F.ai (.inl rfl)),F.F9,k.owns F.cW (D F.cW (.inr (.inl rfl))),λx hx=>k.owns (F.j_ x hx) (D (F.j_ x hx) (.inr (.inr (.inr rfl)))),
  F.I8,k.owns F.eR (D F.eR (.inr (.inr (.inl rfl)))),λx hx=>k.owns (F.rY x hx) (D (F.rY x hx) (.inr (.inr (.inr rfl))))⟩
section
variable {w w':World} {xb tb:Nat} {T:TypeId} {pc:Pc} {ol:Ol} {x:Sv} {kv:Value}
theorem eX.P0(h:eX w xb tb T pc ol x kv):T≠261/\T≠173/\T≠95/\¬C2 T:=by
 rcases h.ty with rfl|rfl<;>exact⟨by decide,by decide,by decide,by unfold C2;decide⟩
theorem eX.qI(h:eX w xb tb T pc ol x kv):uU w 0 xb 5 (r9 pc x kv tb) T x.made x.kept kv:=⟨h.bO,rfl,rfl,h.row,h.wf,h.P0.1⟩
theorem eX.Yg(h:eX w xb tb T pc ol x kv):xb≠tb:=by
 intro e;have D:=h.bO;rw[e,h.rN]at D;simp only[bq,dI]at D;exact h.P0.2.1 D.2.1.symm
theorem eX.kvX(h:eX w xb tb T pc ol x kv):kv.ownBlock≠some xb:=aZ h.row h.bO h.P0.1.symm
theorem eX.Yh(h:eX w xb tb T pc ol x kv):kv.ownBlock≠some tb:=aZ h.row h.rN (by decide)
theorem eX.Yi(h:eX w xb tb T pc ol x kv)(K:Kp (xo xb tb kv) w w'):∃B lt lb,Dh w' B ol pc.c pc.d pc.e lt lb:=by
 obtain⟨B,lt,lb,F⟩:=h.pl;refine⟨B,lt,lb,F.PZ K ?_⟩;intro i E e hi he G
 rcases G with rfl|rfl|hk
 ·rw[h.bO]at hi;simp only[bq,dI]at hi;exact h.P0.2.2.2 (by rw[hi.2.1];exact he)
 ·rw[h.rN]at hi;grind[C2]
 obtain⟨D,I⟩:=bz h.row hk;grind[C2]
theorem eX.az{S:Nat->Prop}(h:eX w xb tb T pc ol x kv)(K:Kp S w w')(E:¬S xb)(G:¬S tb)(I:∀k,kv.ownBlock=some k->¬S k)(J:∀i D e,w.heap[i]? =some (.cells D e (0,0))->C2 e->¬S i):eX w' xb tb T pc ol x kv:=by
 obtain⟨B,lt,lb,F⟩:=h.pl;exact⟨K.at_ h.bO E,K.owns h.row I,K.at_ h.rN G,h.wf,h.tw,h.ty,B,lt,lb,F.PZ K J⟩
theorem eX.au(h:eX w xb tb T pc ol x kv)(K:Kp (λ_=>False) w w'):eX w' xb tb T pc ol x kv:=h.az K (λx=>x) (λx=>x) (λ_ _ x=>x) (λ_ _ _ _ _ x=>x)
theorem eX.kb(h:eX w xb tb 138 pc ol x kv):Pl w xb 0 ol:=by
 obtain⟨B,lt,lb,F⟩:=h.pl;exact⟨pc.c,pc.d,pc.e,lt,lb,B,_,_,⟨h.bO,.inr (.inr rfl),rfl,rfl,rfl⟩,F⟩
theorem eX.cell(h:eX w xb tb T pc ol x kv)(j:Nat):w.cell? ⟨xb,j,none⟩=(r9 pc x kv tb)[j]?:=by rw[World.cell?,h.bO];rfl
theorem eX.free(h:eX w xb tb T pc ol x kv)(j:Nat):w.frozen? ⟨xb,j,none⟩=false:=by simp[World.frozen?,h.bO]
theorem eX.pf(h:eX w xb tb T pc ol x kv)(j:Nat):w.frozen? ⟨tb,j,none⟩=false:=by simp[World.frozen?,h.rN]
theorem eX.ew(h:eX w xb tb T pc ol x kv){u:Nat}{t:Tk}(hu:x.ah[u]? =some t){j:Nat}(D:j<45):w.cell? ⟨tb,u*45+j,none⟩=(kn t)[j]?:=by
 rw[jf h.rN];exact jh kn 45 x.ah u t j (λa ha=>eW (h.tw a ha)) hu D
theorem eX.Wu(h:eX w xb tb T pc ol x kv){u:Nat}{t:Tk}(hu:x.ah[u]? =some t):t.now.Wf:=h.tw t (aM hu)
theorem eX.ah(h:eX w xb tb T pc ol x kv){u:Nat}{t':Tk}(hw:t'.now.Wf)(K:Kp (λk=>k=tb) w w')(hb:w'.heap[tb]? =some (.cells (cU (x.ah.set u t')).toArray 173 (0,0))):
 eX w' xb tb T pc ol {x with ah:=x.ah.set u t'} kv:=by
 refine⟨?_,K.owns h.row (λk e x=>h.Yh (by rw[<-x];exact e)),hb,h.wf,?_,h.ty,h.Yi (K.mono (λ_ _ x=>.inr (.inl x)))⟩
 ·have:=K.at_ h.bO h.Yg
  grind[r9]
 intro t D
 rcases pX D with D|rfl
 ·exact h.tw t D
 omega
theorem eX.P1(h:eX w xb tb T pc ol x kv){u:Nat}{t t':Tk}(hu:x.ah[u]? =some t)(hw:t'.now.Wf)(j:Nat)(D:j<45)(v:Value)(E:kn t'=(kn t).set j v):
 eX (w.setCell ⟨tb,u*45+j,none⟩ v) xb tb T pc ol {x with ah:=x.ah.set u t'} kv:=by
 refine h.ah hw ((Kp.refl (λk=>k=tb) w).setCell (p:=⟨tb,u*45+j,none⟩) (λ_=>rfl) _) ?_;rw[ak _ h.rN]
 congr 2
 have:=qG kn 45 x.ah u t t' j v (λa ha=>eW (h.tw a ha)) hu D E;grind[cU]
theorem eX.Yj(h:eX w xb tb T pc ol x kv){u:Nat}{t t':Tk}(hu:x.ah[u]? =some t)(hw:t'.now.Wf)(j:Nat)(l:List Value)(D:j+l.length<=45)(E:kn t'=(kn t).take j++l++(kn t).drop (j+l.length)):
 eX (w.setRow tb (putAt (cU x.ah).toArray (u*45+j) l)) xb tb T pc ol {x with ah:=x.ah.set u t'} kv:=by
 refine h.ah hw ((Kp.refl (λk=>k=tb) w).setRow (λ_=>rfl) _) ?_;rw[ax w tb _ _ 173 (0,0) h.rN]
 congr 2
 exact wR kn 45 x.ah u t t' j l (λa ha=>eW (h.tw a ha)) hu D E
theorem eX.Fw(h:eX w xb tb T pc ol x kv):(cU x.ah).toArray.size=x.ah.length*45:=by
 simp only[List.size_toArray];exact qF kn 45 x.ah (λa ha=>eW (h.tw a ha))
theorem eX.own(h:eX w xb tb T pc ol x kv){x':Sv}(hk:x'.kept=x.kept)(D:x'.ah=x.ah)(K:Kp (λk=>k=xb) w w')(hb:w'.heap[xb]? =some (.cells (r9 pc x' kv tb) T (0,0))):eX w' xb tb T pc ol x' kv:=by
 refine⟨hb,by rw[hk];exact K.owns h.row (λk e x=>h.kvX (by rw[<-x];exact e)),by rw[D];exact K.at_ h.rN h.Yg.symm,by rw[hk];exact h.wf,by rw[D];exact h.tw,h.ty,h.Yi (K.mono (λ_ _ x=>.inl x))⟩
theorem eX.zE(h:eX w xb tb T pc ol x kv){x':Sv}(hk:x'.kept=x.kept)(D:x'.ah=x.ah)(j:Nat)(v:Value)(he:(r9 pc x kv tb).setIfInBounds j v=r9 pc x' kv tb):eX (w.setCell ⟨xb,j,none⟩ v) xb tb T pc ol x' kv:=by
 refine h.own hk D ((Kp.refl (λk=>k=xb) w).setCell (p:=⟨xb,j,none⟩) (λ_=>rfl) _) ?_;rw[ak _ h.bO,he]
theorem g_.refl(h:eX w xb tb T pc ol x kv):g_ w w xb tb T pc ol kv x:=⟨kv,h,λ_ e=>.inl e,Kp.refl _ _⟩
theorem g_.of(h:eX w' xb tb T pc ol x kv)(K:Kp (xo xb tb kv) w w'):g_ w w' xb tb T pc ol kv x:=⟨kv,h,λ_ e=>.inl e,K⟩
theorem g_.trans{w'':World}{x':Sv}{F:Value}(K:Kp (xo xb tb kv) w w')(hk:∀k,F.ownBlock=some k->kv.ownBlock=some k\/w.heap.size<=k)(q:g_ w' w'' xb tb T pc ol F x'):g_ w w'' xb tb T pc ol kv x':=by
 obtain⟨D,I,J,G⟩:=q;refine⟨D,I,?_,K.trans' G ?_⟩
 ·intro k e
  rcases J k e with E|E
  ·simp_all
  exact .inr (bA K.size E)
 intro i hi s
 rcases s with s|s|s
 ·exact .inl s
 ·exact .inr (.inl s)
 rcases hk i s with e|e
 ·exact .inr (.inr e)
 omega
theorem eX.SY(h:eX w xb tb T pc ol x kv){D:List Vr}(K:Kp (λk=>kv.ownBlock=some k) w w')(hs:uU w' 0 xb 5 (r9 pc x kv tb) T x.made D kv):eX w' xb tb T pc ol {x with kept:=D} kv:=
 ⟨hs.bO,hs.row,K.at_ h.rN h.Yh,hs.wf,h.tw,h.ty,h.Yi (K.mono (λ_ _ x=>.inr (.inr x)))⟩
theorem eX.oO(h:eX w xb tb T pc ol x kv){g:Nat}{c:Array Value}{e:TypeId}(Y:w.heap[g]? =some (.cells c e (0,0)))(he:e=64\/e=95)(F:Array Value):eX (w.setRow g F) xb tb T pc ol x kv:=by
 have O:e≠T:=by rcases he with rfl|rfl<;>rcases h.ty with rfl|rfl<;>decide
 have U:e≠261:=by rcases he with rfl|rfl<;>decide
 have J:e≠173:=by rcases he with rfl|rfl<;>decide
 have ne:∀{b:Nat} {E:Array Value} {D:TypeId},w.heap[b]? =some (.cells E D (0,0))->e≠D->b≠g:=by
  grind
 refine h.az (S:=λk=>k=g) ((Kp.refl (λk=>k=g) w).setRow (λ_=>rfl) _) (ne h.bO O) (ne h.rN J) ?_ ?_
 ·intro k I
  obtain⟨G,X⟩:=bz h.row I;grind
 grind[C2]
theorem eX.low(h:eX w xb tb T pc ol x kv):∀k,xo xb tb kv k->k<w.heap.size:=by
 rintro k (rfl|rfl|e)
 ·exact aR h.bO
 ·exact aR h.rN
 obtain⟨D,E⟩:=bz h.row e;grind
theorem g_.at_{x':Sv}(q:g_ w w' xb tb T pc ol kv x'){n:Nat}(E:∀k,xo xb tb kv k->k<n){o:Obj}(F:w.heap[n]? =some o):w'.heap[n]? =some o:=by
 obtain⟨J,G,I,D⟩:=q;exact D.at_ F (λs=>by have:=E n s;omega)
theorem g_.dR{w'':World}{x':Sv}(K:Kp (xo xb tb kv) w w')(q:g_ w' w'' xb tb T pc ol kv x'){c:Array Value}(G:w''.heap[w.heap.size]? =some (.cells c 64 (0,0)))(D:Array Value):g_ w (w''.setRow w.heap.size D) xb tb T pc ol kv x':=by
 obtain⟨J,F,I,E⟩:=q;exact⟨J,F.oO G (.inl rfl) D,λk e=>(I k e).imp id (bA K.size),(K.trans' E (λ_ _ s=>s)).setRow (λx=>by omega) D⟩
end
namespace Ch
structure Sv.Bd(x:Sv):Prop where
 made:x.made<=100000000000000
 Fx:x.kept.length<=1000
 sK:∀v∈x.kept,v.num<=1000000000000000/\v.pins<=1000000000000000
 joined:x.joined<=1000000000000000000
 tail:x.tail.size<=24
 tj:x.tail.size<=x.joined
 tick:x.aU<=1000000000000000
 turn:x.turn<=1000000000000000
 ah:x.ah.length<=6
def ji(x:Sv)(e:Int):Rp:={dT with err:=e,kZ:=(x.made:Int)-1}
def mY(x:Sv)(a:Int):Rp:=
 if(gW x.joined x.tail a).2 !=0 then ji x (gW x.joined x.tail a).2
 else {dT with kZ:=(x.made:Int)-1,next:=a+((gW x.joined x.tail a).1.size:Int),text:=(gW x.joined x.tail a).1}
end Ch
section
variable (w:World) {xb tb:Nat} {T:TypeId} {pc:Pc} {ol:Ol} {x:Sv} {kv:Value}
theorem s9(h:eX w xb tb T pc ol x kv)(D:x.Bd)(s:Sd)(hs:s.Wf)(out:ByteArray)(ho:out.size<=10000000000):
 Calls prog 135 #[.pointer (some ⟨xb,0,none⟩),.agg (aY s).toArray,.string out] w λr w'=>r= .returned (.tuple #[])/\g_ w w' xb tb T pc ol kv (kj x s out):=by
 obtain⟨ds,aa,kJ⟩:=iM;have Y:=an w (.cells (aY s).toArray 95);have G:Kp (λ_=>False) w (w.alloc (.cells (aY s).toArray 95)):=(Kp.refl _ _).alloc _;have h1:=h.au G
 have aj:(prog.info? 95).map (·.size)=some (aY s).toArray.size:=by rw[show(aY s).toArray.size=36 by simp[cP hs]];exact fR
 have EA:=af (Lg (w.alloc (.cells (aY s).toArray 95)).drew (h1.au ((Kp.refl _ _).drewN 1)).qI (aG _) D.Fx D.made D.sK h.P0.2.2.1 s hs);have ap:=aR h.bO;have ao:=aR h.rN
 have ad:∀k,kv.ownBlock=some k->k<w.heap.size:=λk e=>by
  obtain⟨am,hc⟩:=bz h.row e;exact aR hc
 have HH:=af (ae h (ae D G));clear h;generalize Ao:(aY s).toArray=I at*;clear Ao
 go_enter func135,ntmps135
 go_upto_region 1 with(fail)
 generalize w.alloc (.cells I 95)=w1 at*;have E:w1.drew.heap[w.heap.size]? =_:=Y;refine bf (λw'=>w'.heap[w.heap.size]? =some (.cells I 95 (0,0))) (by kernel_rfl) ?_;refine bM 0 6 (.pointer (some ⟨xb,0,none⟩)) E ?_;refine bM 1 7 (.pointer (some ⟨xb,0,none⟩)) E ?_;refine bM 2 8 (.pointer (some ⟨xb,5,none⟩)) E ?_;refine eG 3 9 (.agg I) rfl (λw' hS=>du 95 (.tmp 4) rfl w.heap.size rfl 95 I (0,0) ds hS aa kJ aj) E ?_;refine oX 4 ?_;refine dW (some 10) rfl 184 #[.pointer (some ⟨xb,5,none⟩),.agg I] (by simp[execOp,Act.eval,go_sem]) (.tuple #[]) _ EA.out ?_;rintro w2 ⟨oB,q1,q2,q3,O⟩
 have U:w2.heap[w.heap.size]? =some (.cells I 95 (0,0)):=O.at_ E (by
  rintro(e|e)
  ·omega
  have:=ad _ e;omega)
 refine⟨U,?_⟩;refine bF (by kernel_rfl) (bG ?_) _;have EJ:=af (Ix w2 (jo:=7) (joined:=x.joined) (tail:=x.tail) q1 (by simp[r9]) (by simp[r9]) out D.tail ho D.joined);have HQ:=af (ae q2 (ae q3 O));clear EA q1 q2 q3 O U E Y h1
 go_wp2_with fail
 refine hm EJ ?_;rintro x3 w3 ⟨rfl,Z,J⟩;have HP:=af (ae Z J);clear EJ Z J;go_wp2
 go_end0
 refine⟨rfl,oB,?_⟩;obtain⟨h,D,G⟩:=HH.out;obtain⟨q2,q3,O⟩:=HQ.out;obtain⟨Z,J⟩:=HP.out;have KA:Kp (xo xb tb kv) w w2:=((G.drewN 1).mono (λ_ _ x=>x.elim)).trans' O (λi _ s=>s.elim (λs=>.inl s) (λs=>.inr (.inr s)));have KB:=KA.trans' J (λi _ s=>.inl s)
 have X:=λk e=>bA G.size (q3 k e)
 refine⟨⟨?_,J.owns q2 (λk e x=>by have:=X k e;omega),?_,?_,h.tw,h.ty,h.Yi KB⟩,λk e=>.inr (X k e),KB⟩
 ·rw[Z]
  simp[r9,kj]
 ·have K2:=(((G.drewN 1).mono (λ_ _ x=>x.elim)).trans' O (λi _ s=>s)).trans' J (λi _ s=>.inl s)
  exact K2.at_ h.rN (by
   rintro(e|e)
   ·exact h.Yg e.symm
   exact h.Yh e)
 intro v F;have F:=(gP.1 F).1
 rcases cB.1 F with F|F
 ·exact h.wf v F
 simp at F;subst F;exact hs
theorem vM(h:eX w xb tb T pc ol x kv)(u:Int):
 Calls prog 90 #[.pointer (some ⟨xb,0,none⟩),.int .i64 u] w λr w'=>r= .returned (.bool (decide (0<=u)&&decide (u<(x.ah.length:Int))))/\w'=w:=by
 have F:w.cell? _=some (.slice (some ⟨tb,0,none⟩) x.ah.length x.ah.length):=h.cell 9;clear h
 by_cases E:0<=u
 ·by_cases D:u<(x.ah.length:Int)
  ·go_enter func90,ntmps90
   go_wp2;go_ret;exact⟨by simp[E,D],rfl⟩
  go_enter func90,ntmps90
  go_wp2;go_ret;exact⟨by simp[D],rfl⟩
 go_enter func90,ntmps90
 go_wp2;go_ret;exact⟨by simp;omega,rfl⟩
theorem C3(h:eX w xb tb T pc ol x kv)(hk:x.kept.length<=1000):
 Calls prog 85 #[.pointer (some ⟨xb,0,none⟩)] w λr w'=>r= .returned (.slice (some ⟨w.heap.size,0,none⟩) x.kept.length x.kept.length)/\w'.ownsRow w.heap.size 3 1 (.slice (some ⟨w.heap.size,0,none⟩) x.kept.length x.kept.length) x.kept.length (x.kept.map λv=>.int .i64 v.num)/\Kp (λ_=>False) w w':=by
 have E:=af (Ft w h.qI hk);clear h
 go_enter func85,ntmps85
 go_wp2_with fail
 refine hm E ?_;rintro r I ⟨rfl,G,F⟩;have D:=af (ae G F);clear E G F;go_wp2;go_ret;exact⟨rfl,D.out.1,D.out.2⟩
theorem mA(h:eX w xb tb T pc ol x kv)(G:x.made<=1000000000000000)(e:Int):
 Calls prog 190 #[.pointer (some ⟨xb,0,none⟩),.int .i64 e] w λr w'=>r= .returned (.agg (bJ (ji x e)))/\Kp (λ_=>False) w w':=by
 obtain⟨dr,F,O⟩:=mz;have I:Kp (λ_=>False) w (w.alloc (.cells aH 64)):=(Kp.refl _ _).alloc _;have D:=an w (.cells aH 64);have E:=af (lS _ (h.au I).qI G);have U:=ax (w.alloc (.cells aH 64)) w.heap.size aH (bJ (ji x e)) 64 (0,0) D;have J:=I.setRow (g:=w.heap.size) (λx=>by omega) (bJ (ji x e));clear h
 go_enter func190,ntmps190
 go_upto_region 1 with(fail)
 generalize w.alloc (.cells aH 64)=X at*
 go_wp2_with fail
 refine hm E ?_;rintro r Y ⟨rfl,rfl⟩;clear E
 go_wp2_with (refine cj (bJ (ji x e)) D aQ rfl (cE _) ?_)
 refine uu U F O aQ ?_;exact⟨rfl,J⟩
end
namespace Ch
theorem SZ{j:Nat}{t:ByteArray}{a:Int}(h:(gW j t a).2=0):a<=(j:Int)/\(j:Int)-(t.size:Int)<=a/\(gW j t a).1.size<=8:=by
 unfold gW at*
 split at h
 ·omega
 split at h
 ·omega
 rename_i D E;refine⟨by omega,by omega,?_⟩;rw[ay D,ay E]
 split
 ·simp_all<;>omega
 simp_all
def uj(x:Sv)(t:Tk):Int:=if t.at_<0 then(x.made:Int)-1 else t.at_
def mZ(x:Sv)(u:Nat)(t:Tk):Sv×Rp×Bool:=
 if(x.made:Int)-1<uj x t then(x,ji x 14,true)
 else if(qH x.kept (uj x t)).2 then({x with kept:=(qH x.kept (uj x t)).1,ah:=x.ah.set u {t with pinned:=uj x t}},dT,false)
 else(x,ji x 15,true)
theorem IA{l:List Vr}{n:Int}(h:(qH l n).2=false):(qH l n).1=l:=by
 grind[qH]
end Ch
theorem bE{F:Func}{p q:Tmp}(h:F.results= #[.cell p 64,.tmp q])(D:Array Value)(w:World)(g:Nat)(r:Rp)(J:D.getD p undef= .pointer (some ⟨g,0,none⟩))(I:w.heap[g]? =some (.cells (bJ r) 64 (0,0))):
 (results F D).run prog w= .ok (.tuple #[.agg (bJ r),D.getD q undef]) w:=by
 obtain⟨dr,E,G⟩:=mz;exact results_cell_tmp h D w g 64 (bJ r) (0,0) dr J I E G aQ
section
variable (w:World) {xb tb:Nat} {T:TypeId} {pc:Pc} {ol:Ol} {x:Sv} {kv:Value}
theorem P2(h:eX w xb tb T pc ol x kv)(D:x.Bd)(a:Int):
 Calls prog 140 #[.pointer (some ⟨xb,0,none⟩),.int .i64 a] w λr w'=>r= .returned (.agg (bJ (mY x a)))/\Kp (λ_=>False) w w':=by
 obtain⟨dr,X,eJ⟩:=mz;have K1:Kp (λ_=>False) w (w.alloc (.cells aH 64)):=(Kp.refl _ _).alloc _;have G:=an w (.cells aH 64);have h1:=h.au K1;have E:=af (Iy (w.alloc (.cells aH 64)) (jo:=7) (joined:=x.joined) (tail:=x.tail) h1.bO rfl rfl a D.tail D.tj D.joined)
 have Y:=af (show mY x a=if(gW x.joined x.tail a).2 !=0 then ji x (gW x.joined x.tail a).2
  else {dT with kZ:=(x.made:Int)-1,next:=a+((gW x.joined x.tail a).1.size:Int),text:=(gW x.joined x.tail a).1}from rfl)
 have I:(gW x.joined x.tail a).2=0->a<=(x.joined:Int)/\(x.joined:Int)-(x.tail.size:Int)<=a/\(gW x.joined x.tail a).1.size<=8:=SZ;have ap:=D.tj;have hj:=D.joined;have ao:=D.made;have HH:=af (ae h1 K1);clear h h1 K1;generalize gW x.joined x.tail a=tt at*;obtain⟨tx,J⟩:=tt;simp only at*
 go_enter func140,ntmps140
 go_upto_region 1 with(fail)
 generalize w.alloc (.cells aH 64)=w1 at*
 go_wp2_with fail
 refine hm E ?_;rintro r w2 ⟨rfl,U⟩;have F:=U.at_ G (λx=>x);have h2:=HH.out.1.au U;have Z:=HH.out.2.trans U;clear E G
 cases q1:J !=0 with
 |true=>
  have HF:=af (Y.out.trans (show _=ji x J by rw[q1];rfl));have O:=af (mA w2 h2 (by omega) J);clear Y I
  go_wp2_with fail
  refine hm O ?_;rintro r w3 ⟨rfl,K3⟩;have lC:=K3.at_ F (λx=>x);have KF:=(Z.trans K3).setRow (g:=w.heap.size) (λx=>by omega) (bJ (ji x J));have j7:=ax w3 w.heap.size aH (bJ (ji x J)) 64 (0,0) lC;clear O h2 U K3 F Z
  go_wp2_with (refine cj (bJ (ji x J)) lC aQ rfl (cE _) ?_)
  refine uu j7 X eJ aQ ?_;rw[HF.out];exact⟨rfl,KF⟩
 |false=>?_
 have aa:J=0:=by simpa using q1
 subst aa;obtain⟨ad,aj,am⟩:=I rfl;have HF:=af (Y.out.trans (show _={dT with kZ:=(x.made:Int)-1,next:=a+(tx.size:Int),text:=tx}by rw[q1];rfl));have O:=af (lS w2 h2.qI (by omega));generalize P3:{dT with kZ:=(x.made:Int)-1,next:=a+(tx.size:Int),text:=tx}=RP at*;have KF:=Z.setRow (g:=w.heap.size) (λx=>by omega) (bJ RP);have j7:=ax w2 w.heap.size aH (bJ RP) 64 (0,0) F;clear Y I U Z h2;have HR:=af P3;clear P3
 go_wp2_with fail
 refine hm O ?_;rintro r w3 ⟨rfl,rfl⟩;clear O
 go_wp2_with (refine wpList_store_row rfl 64 (.tmp 4) (.tmp 29) rfl w.heap.size (bJ RP) rfl (by rw[<-HR.out];rfl) 64 aH F aQ rfl (cE _) ?_)
 refine uu j7 X eJ aQ ?_;rw[HF.out];exact⟨rfl,KF⟩
theorem IB(h:eX w xb tb T pc ol x kv)(Y:x.Bd){u:Nat}{t:Tk}(hu:x.ah[u]? =some t):
 Calls prog 187 #[.pointer (some ⟨xb,0,none⟩),.pointer (some ⟨tb,u*45,none⟩)] w λr w'=>r= .returned (.tuple #[.agg (bJ (mZ x u t).2.1),.bool (mZ x u t).2.2])/\g_ w w' xb tb T pc ol kv (mZ x u t).1:=by
 have K1:Kp (λ_=>False) w (w.alloc (.cells aH 64)):=(Kp.refl _ _).alloc _;have D:=an w (.cells aH 64);have h1:=h.au K1;have aj:=Y.made;have aI:=aR h.bO;have ap:=aR h.rN
 have ad:∀k,kv.ownBlock=some k->k<w.heap.size:=λk e=>by
  obtain⟨ao,hc⟩:=bz h.row e;exact aR hc
 have aa:=h.Wu hu;have c2:(w.alloc (.cells aH 64)).cell? ⟨tb,u*45+2,none⟩=some _:=h1.ew hu (by omega);have E1:=af (lS (w.alloc (.cells aH 64)) h1.qI (by omega))
 have HU:=af (show mZ x u t=if(x.made:Int)-1<uj x t then(x,ji x 14,true)
  else if(qH x.kept (uj x t)).2 then({x with kept:=(qH x.kept (uj x t)).1,ah:=x.ah.set u {t with pinned:=uj x t}},dT,false)
  else(x,ji x 15,true)from rfl)
 have HW:=af (show uj x t=if t.at_<0 then(x.made:Int)-1 else t.at_ from rfl);have F:=af (ae h1 (ae K1 (ae h (ae Y hu))));clear h h1 K1 Y hu;generalize mZ x u t=TS at*;generalize uj x t=E at*
 go_enter func187,ntmps187
 go_upto_region 1 with(fail)
 generalize w.alloc (.cells aH 64)=w1 at*
 go_upto_if 13 with(fail)
 go_cut [6,13]from 14 to 17 (λn _ wx=>n= .int .i64 E/\wx=w1)
 case first=>
  by_cases q:t.at_<0
  ·go_wp2_with fail
   refine hm E1 ?_;rintro r w3 ⟨rfl,rfl⟩;clear E1;go_wp2
   go_meet
   exact⟨by rw[HW.out,aq q],rfl⟩
  go_wp2
  go_meet
  exact⟨by rw[HW.out,ay (by omega)],rfl⟩
 case rest=>
  obtain⟨rfl,rfl⟩:=hcut
  by_cases q1:(x.made:Int)-1<E
  ·have HF:=af (HU.out.trans (aq q1))
   have E2:=af (mA wc F.out.1 (by omega) 14);clear HU HW
   go_wp2_with fail
   refine hm E1 ?_;rintro r w3 ⟨rfl,rfl⟩;clear E1
   go_wp2_with fail
   refine hm E2 ?_;rintro r w4 ⟨rfl,I⟩;have U:=I.at_ D (λx=>x);have G:=(F.out.1.au I).oO U (.inl rfl) (bJ (ji x 14));have O:=((F.out.2.1.trans I).mono (S':=xo xb tb kv) (λ_ _ x=>x.elim)).setRow (g:=w.heap.size) (λx=>by omega) (bJ (ji x 14));have j7:=ax w4 w.heap.size aH (bJ (ji x 14)) 64 (0,0) U;have J:=af (ae G O);clear E2 I G O D
   go_wp2_with (refine cj (bJ (ji x 14)) U aQ rfl (cE _) ?_)
   refine bg (bE rfl _ _ w.heap.size _ rfl j7) rfl ?_;rw[HF.out];exact⟨rfl,g_.of J.out.1 J.out.2⟩
  have HV:=af (HU.out.trans (ay q1));have EP:=af (SW wc F.out.1.qI F.out.2.2.2.1.Fx E (λv hv=>(F.out.2.2.2.1.sK v hv).2));have Z:(qH x.kept E).2=false->(qH x.kept E).1=x.kept:=IA;clear HU HW;generalize qH x.kept E=pp at*;obtain⟨pk,pb⟩:=pp;simp only at*
  go_wp2_with fail
  refine hm E1 ?_;rintro r w3 ⟨rfl,rfl⟩;clear E1
  go_wp2_with fail
  refine hm EP ?_;rintro r w4 ⟨rfl,s4,I⟩;have G:=F.out.1.SY I s4;have U:=I.at_ D (λe=>by have:=ad _ e;omega);have KA:Kp (xo xb tb kv) w w4:=(F.out.2.1.mono (λ_ _ x=>x.elim)).trans' I (λi _ e=>.inr (.inr e));clear EP I s4
  cases pb with
  |false=>
   have HF:=af (HV.out.trans (ay (by simp)));have am:=Z rfl;subst am;have E2:=af (mA w4 G (by exact bA aj (by omega)) 15);have HX:=af (ae G KA);clear HV G KA Z
   go_wp2_with fail
   refine hm E2 ?_;rintro r w5 ⟨rfl,X⟩;have rX:=X.at_ U (λx=>x);have h5:=(HX.out.1.au X).oO rX (.inl rfl) (bJ (ji x 15));have O:=(HX.out.2.trans' X (λ_ _ x=>x.elim)).setRow (g:=w.heap.size) (λx=>by omega) (bJ (ji x 15));have j7:=ax w5 w.heap.size aH (bJ (ji x 15)) 64 (0,0) rX;have J:=af (ae h5 O);clear E2 X h5 O D U
   go_wp2_with (refine cj (bJ (ji x 15)) rX aQ rfl (cE _) ?_)
   refine bg (bE rfl _ _ w.heap.size _ rfl j7) rfl ?_;rw[HF.out];exact⟨rfl,g_.of J.out.1 J.out.2⟩
  |true=>?_
  have HF:=af (HV.out.trans (aq rfl));have ZM:w4.cell? ⟨tb,u*45+44,none⟩=some _:=(G.ew F.out.2.2.2.2 (by omega)).trans (my aa 2);have f44:=G.pf (u*45+44);have h5:=G.P1 (t':={t with pinned:=E}) F.out.2.2.2.2 aa 44 (by omega) (.int .i64 E) (s7 (t':={t with pinned:=E}) aa rfl rfl 2 _ rfl);have X:Kp _ _ (w4.setCell ⟨tb,u*45+44,none⟩ (.int .i64 E)):=KA.setCell (p:=⟨tb,u*45+44,none⟩) (λ_=>.inr (.inl rfl)) _
  have rX:(w4.setCell ⟨tb,u*45+44,none⟩ (.int .i64 E)).heap[w.heap.size]? =some (.cells aH 64 (0,0)):=by
   rw[kq _ _ _ _ (by show w.heap.size≠tb;omega)];exact U
  have h6:=h5.oO rX (.inl rfl) aH;have O:=X.setRow (g:=w.heap.size) (λx=>by omega) aH;have j7:=ax _ w.heap.size aH aH 64 (0,0) rX;have J:=af (ae h6 O);clear HV G KA Z h5 X h6 O D U
  go_wp2_with (refine cj aH rX aQ rfl (cE dT) ?_)
  refine bg (bE rfl _ _ w.heap.size dT rfl j7) rfl ?_;rw[HF.out];exact⟨rfl,g_.of J.out.1 J.out.2⟩
end
namespace Ch
def Yk(l:List Vr)(n:Int):Option (Nat×Vr):=match l.findIdx? (λv=>(v.num:Int)==n)with
 |some k=>l[k]?.map (λv=>(k,v))
 |none=>none
theorem JR{l:List Vr}{k:Nat}{v:Vr}(G:l[k]? =some v)(F:∀j u,l[j]? =some u->u.num=v.num->j=k):Yk l v.num=some (k,v):=by
 obtain⟨D,E⟩:=aJ.1 G
 have e:l.findIdx? (λu=>(u.num:Int)==(v.num:Int))=some k:=by
  rw[List.findIdx?_eq_some_iff_getElem];refine⟨D,by rw[E];simp,?_⟩;intro j I;have:=F j _ (ar (by omega));grind
 grind[Yk]
def MR(made:Nat)(l:List Vr)(n:Int):List Vr:=match Yk l n with|some (k,v)=>AH made l k v|none=>lx made l
def BP(l:List Vr)(n:Int):Sd:=match Yk l n with|some (_,v)=>v.now|none=>wS
def cD(t:Tk):Tk:={t with steps:=t.steps+1}
def aA(x:Sv)(u:Nat)(t:Tk):Sv:={x with ah:=x.ah.set u t}
def m_(ol:Ol)(x:Sv)(u:Nat)(t:Tk):Sv×Rp×Bool:=
 if t.steps=0 then mZ (aA x u (cD t)) u (cD t)
 else if t.steps=1 then(aA x u (cD t),dT,false)
 else({aA x u (cD t)with kept:=MR x.made x.kept t.pinned},{dT with kZ:=t.pinned,st:=bV ol.ai (BP x.kept t.pinned)},true)
theorem S0{made:Nat}{l:List Vr}{k:Nat}{v:Vr}(h:∀v∈l,v.now.Wf)(D:l[k]? =some v):∀u∈AH made l k v,u.now.Wf:=by
 intro u hu;have hu:=(gP.1 hu).1
 grind
end Ch
section
variable {w w':World} {xb tb:Nat} {T:TypeId} {pc:Pc} {ol:Ol} {x:Sv} {kv:Value}
theorem eX.Yl(h:eX w xb tb T pc ol x kv){l:List Vr}(E:∀v∈l,v.now.Wf)(q:MQ w w' 0 xb 5 (r9 pc x kv tb) T kv l):g_ w w' xb tb T pc ol kv {x with kept:=l}:=by
 obtain⟨F,J,G,I,D⟩:=q;have KB:Kp (xo xb tb kv) w w':=D.mono (λi _ s=>s.elim (λs=>.inl s) (λs=>.inr (.inr s)));refine⟨F,⟨?_,G,?_,E,h.tw,h.ty,h.Yi KB⟩,λk e=>.inr (I k e),KB⟩
 ·simp_all[r9]
 exact D.at_ h.rN (by
  rintro(e|e)
  ·exact h.Yg e.symm
  exact h.Yh e)
theorem MQ.ew{l:List Vr}{C:Array Value}(h:eX w xb tb T pc ol x kv)(q:MQ w w' 0 xb 5 C T kv l)(j:Nat):w'.cell? ⟨tb,j,none⟩=w.cell? ⟨tb,j,none⟩:=by
 obtain⟨E,F,G,I,D⟩:=q
 have:=D.block tb (aR h.rN) (by
  rintro(e|e)
  ·exact h.Yg e.symm
  exact h.Yh e)
 unfold World.cell?;simp_all
theorem g_.stand{F E:World}{x':Sv}(K:Kp (λ_=>False) w F)(q:g_ F E xb tb T pc ol kv x'){g:Nat}(X:w.heap.size<=g){c:Array Value}(J:E.heap[g]? =some (.cells c 95 (0,0)))(D:Array Value):g_ w (E.setRow g D) xb tb T pc ol kv x':=by
 obtain⟨U,I,O,G⟩:=q;exact⟨U,I.oO J (.inr rfl) D,λk e=>(O k e).imp id (bA K.size),((K.mono (λ_ _ x=>x.elim)).trans' G (λ_ _ s=>s)).setRow (λx=>by omega) D⟩
theorem g_.alloc{x':Sv}(q:g_ w w' xb tb T pc ol kv x')(o:Obj):g_ w (w'.alloc o) xb tb T pc ol kv x':=by
 obtain⟨G,E,F,D⟩:=q;exact⟨G,E.au ((Kp.refl _ _).alloc _),F,D.alloc _⟩
theorem g_.au{w'':World}{x':Sv}(q:g_ w w' xb tb T pc ol kv x')(K:Kp (λ_=>False) w' w''):g_ w w'' xb tb T pc ol kv x':=by
 obtain⟨G,E,F,D⟩:=q;exact⟨G,E.au K,F,D.trans' K (λ_ _ x=>x.elim)⟩
end
section
variable (w:World) {xb tb:Nat} {pc:Pc} {ol:Ol} {x:Sv} {kv:Value}
theorem C4(h:eX w xb tb 138 pc ol x kv)(G:x.Bd)(aI:ol.Ok){u:Nat}{t:Tk}(hu:x.ah[u]? =some t)(dE:t.steps<=1000)(S1:2<=t.steps->∃(k:Nat) (v:Vr),x.kept[k]? =some v/\t.pinned=(v.num:Int)/\0<v.pins/\∀(j:Nat) (u:Vr),x.kept[j]? =some u->u.num=v.num->j=k):
 Calls prog 139 #[.pointer (some ⟨xb,0,none⟩),.pointer (some ⟨tb,u*45,none⟩)] w λr w'=>r= .returned (.tuple #[.agg (bJ (m_ ol x u t).2.1),.bool (m_ ol x u t).2.2])/\g_ w w' xb tb 138 pc ol kv (m_ ol x u t).1:=by
 have K1:Kp (λ_=>False) w (w.alloc (.cells aH 64)):=(Kp.refl _ _).alloc _;have F:=an w (.cells aH 64);have h1:=h.au K1;have ad:=h.low;have a5:=aR h.rN;have aa:=h.Wu hu;have a1:(w.alloc (.cells aH 64)).cell? ⟨tb,u*45+43,none⟩=some _:=(h1.ew hu (by omega)).trans (my aa 1);have f43:=h1.pf (u*45+43)
 have es:((t.steps+1:Nat):Int)=(t.steps:Int)+1:=by omega
 have J:=h1.P1 (t':=cD t) hu aa 43 (by omega) (.int .i64 ((t.steps:Int)+1)) (s7 (t':=cD t) aa rfl rfl 1 _ (by rw[<-es];rfl));have K2:Kp (xo xb tb kv) w ((w.alloc (.cells aH 64)).setCell ⟨tb,u*45+43,none⟩ (.int .i64 ((t.steps:Int)+1))):=(K1.mono (λ_ _ x=>x.elim)).setCell (p:=⟨tb,u*45+43,none⟩) (λ_=>.inr (.inl rfl)) _
 have O:((w.alloc (.cells aH 64)).setCell ⟨tb,u*45+43,none⟩ (.int .i64 ((t.steps:Int)+1))).heap[w.heap.size]? =some (.cells aH 64 (0,0)):=by
  rw[kq _ _ _ _ (by show w.heap.size≠tb;omega)];exact F
 have a2:=(aJ.1 hu).1
 have aS:(aA x u (cD t)).ah[u]? =some (cD t):=by unfold aA;simp only;rw[jF a2]
 have Ym:(aA x u (cD t)).Bd:=⟨G.made,G.Fx,G.sK,G.joined,G.tail,G.tj,G.tick,G.turn,by unfold aA;simp only[jb];exact G.ah⟩
 have HU:=af (show m_ ol x u t=if t.steps=0 then mZ (aA x u (cD t)) u (cD t)
  else if t.steps=1 then(aA x u (cD t),dT,false)
  else({aA x u (cD t)with kept:=MR x.made x.kept t.pinned},{dT with kZ:=t.pinned,st:=bV ol.ai (BP x.kept t.pinned)},true)from rfl)
 change eX _ xb tb _ pc ol (aA x u (cD t)) kv at J
 generalize m_ ol x u t=RS at*;have X:=af (ae G (ae aI (ae aS (ae Ym (ae S1 h.wf)))));have VO:(cD t).now.Wf:=aa;clear h h1 K1 G hu aS Ym S1 aI
 go_enter func139,ntmps139
 go_upto_region 1 with(fail)
 generalize w.alloc (.cells aH 64)=w1 at*
 go_upto_region 2 with(fail)
 generalize w1.setCell ⟨tb,u*45+43,none⟩ (.int .i64 ((t.steps:Int)+1))=I at*
 have d43:I.cell? ⟨tb,u*45+43,none⟩=some (.int .i64 ((t.steps:Int)+1)):=by
  have:=(J.ew X.out.2.2.1 (j:=43) (by omega)).trans (my VO 1);rw[this];show some (Value.int .i64 ((t.steps+1:Nat):Int))=_;rw[es]
 clear a1 f43 F es
 by_cases q0:t.steps=0
 ·have HF:=af (HU.out.trans (aq q0))
  have E:=af (IB I J X.out.2.2.2.1 X.out.2.2.1);have HX:=af (ae J K2)
  have hq:(t.steps:Int)+1=1:=by omega
  rw[hq]at d43;clear HU J K2 hq;generalize mZ (aA x u (cD t)) u (cD t)=TS at*
  go_wp2_with fail
  refine hm E ?_;rintro r w4 ⟨rfl,q4⟩;have qO:=q4.at_ ad O;have HQ:=af (g_.dR HX.out.2 q4 qO (bJ TS.2.1));have j7:=ax w4 w.heap.size aH (bJ TS.2.1) 64 (0,0) qO;clear E q4 O
  go_wp2_with (refine cj (bJ TS.2.1) qO aQ rfl (cE _) ?_)
  refine bg (bE rfl _ _ w.heap.size TS.2.1 rfl j7) rfl ?_;rw[HF.out];exact⟨rfl,HQ.out⟩
 by_cases q1:t.steps=1
 ·have HF:=af (HU.out.trans ((ay q0).trans (aq q1)))
  have HQ:=af (g_.dR K2 (g_.refl J) O aH);have j7:=ax I w.heap.size aH aH 64 (0,0) O
  have hq:(t.steps:Int)+1=2:=by omega
  rw[hq]at d43;clear HU J K2 hq
  go_wp2_with (refine cj aH O aQ rfl (cE dT) ?_)
  refine bg (bE rfl _ _ w.heap.size dT rfl j7) rfl ?_;rw[HF.out];exact⟨rfl,HQ.out⟩
 obtain⟨k,v,hv,Z,wC,hd⟩:=X.out.2.2.2.2.1 (by omega);have HF:=af (HU.out.trans ((ay q0).trans (ay q1)));rw[Z]at HF;have aj:=JR hv hd
 have er:MR x.made x.kept v.num=AH x.made x.kept k v:=by unfold MR;rw[aj]
 have es:BP x.kept v.num=v.now:=by unfold BP;rw[aj]
 rw[er,es]at HF;have ao:=X.out.2.2.2.2.2 v (aM hv);have aO:=S0 (made:=x.made) X.out.2.2.2.2.2 hv
 have ER:∀W,eX W xb tb 138 pc ol (aA x u (cD t)) kv->Hid (Calls prog 188 #[.pointer (some ⟨xb,5,none⟩),.int .i64 v.num] W λr w'=>r= .returned (.agg (aY v.now).toArray)/\MQ W w' 0 xb 5 (r9 pc (aA x u (cD t)) kv tb) 138 kv (AH x.made x.kept k v)):=
  λW h=>af (Fu W h.qI X.out.1.Fx (bA X.out.1.made (by omega)) k v hv wC hd X.out.1.sK)
 have ZM:I.cell? ⟨tb,u*45+44,none⟩=some (.int .i64 v.num):=by
  rw[<-Z];exact(J.ew X.out.2.2.1 (by omega)).trans (my VO 2)
 have a3:(((t.steps:Int)+1)==1)=false:=by simp;omega
 have a4:(((t.steps:Int)+1)==2)=false:=by simp;omega
 have sI:=iT ao;have sS:=jQ ao;have sO:=oh v.now
 have EQ:∀W w',eX W xb tb 138 pc ol (aA x u (cD t)) kv->MQ W w' 0 xb 5 (r9 pc (aA x u (cD t)) kv tb) 138 kv (AH x.made x.kept k v)->g_ W w' xb tb 138 pc ol kv {aA x u (cD t)with kept:=AH x.made x.kept k v}:=
  λW w' hW q=>hW.Yl aO q
 have a0:({aA x u (cD t)with kept:=AH x.made x.kept k v}:Sv).ah[u]? =_:=X.out.2.2.1;generalize ({aA x u (cD t)with kept:=AH x.made x.kept k v}:Sv)=X2 at*;have HE:=af (ae ER EQ);have HP:=af Z;clear HU q0 q1 aj er es hd hv ER EQ aO Z;generalize Ao:(aY v.now).toArray=SA at*;have Of:=af Ao;clear Ao
 go_upto_region 7 with(fail)
 go_cut [6]from 28 to 35 (λp wx=>∃fb,p= .pointer (some ⟨fb,0,none⟩)/\ey wx fb [] v.now [] 95/\g_ I wx xb tb 138 pc ol kv X2)
 case first=>
  have D:I.drew.cell? _=_:=ZM;have AI:Kp (λ_=>False) I I.drew:=(Kp.refl _ _).drewN 1;refine bf (λw'=>w'.cell? ⟨tb,u*45+44,none⟩=some (.int .i64 v.num)) (by kernel_rfl) ?_;refine bM 0 28 (.pointer (some ⟨xb,0,none⟩)) D ?_;refine bM 1 29 (.pointer (some ⟨xb,0,none⟩)) D ?_;refine bM 2 30 (.pointer (some ⟨xb,5,none⟩)) D ?_;refine bM 3 31 (.pointer (some ⟨tb,u*45,none⟩)) D ?_;refine bM 4 32 (.pointer (some ⟨tb,u*45,none⟩)) D ?_;refine bM 5 33 (.pointer (some ⟨tb,u*45+44,none⟩)) D ?_;refine eG 6 34 (.int .i64 v.num) rfl (λw' hS=>by simp[execOp,Act.eval,go_sem,hS]) D ?_;refine rh 7 8 (by kernel_rfl) rfl rfl rfl rfl ?_ ?_
  ·refine dW (some 35) rfl 188 #[.pointer (some ⟨xb,5,none⟩),.int .i64 v.num] (by simp[execOp,Act.eval,go_sem]) (.agg SA) _ (HE.out.1 I.drew (J.au AI)).out ?_
   intro Y q5
   have U:=((q5.ew (J.au AI) (u*45+44)).trans D)
   have Q5:=HE.out.2 _ _ (J.au AI) q5;have F:=an Y (.cells cO 95);have xI:(Y.alloc (.cells cO 95)).cell? _=_:=Kp.qs ((Kp.refl _ _).alloc _) U;have ub:((Y.alloc (.cells cO 95)).setRow Y.heap.size SA).cell? _=_:=Kp.qs (((Kp.refl _ _).alloc _).setRow (λx=>by omega) _) U;refine⟨U,?_⟩;refine oX 8 ?_;refine gI (some 6) rfl (.pointer (some ⟨Y.heap.size,0,none⟩)) (Y.alloc (.cells cO 95)) (by simp[execOp,go_sem]) ?_;refine⟨xI,?_⟩;refine cK 9 (by kernel_rfl) rfl rfl 95 (.tmp 6) (.tmp 35) rfl rfl Y.heap.size SA (by simp[Act.eval,Act.put]) (by simp[Act.eval,Act.put]) 95 cO F sI (by rw[sS];rfl) sO ub ?_;refine bF (by kernel_rfl) (bG ?_) _;simp only[Act.put,pA,pB,pC];go_wp2
   go_meet
   have iG:I.heap.size<=Y.heap.size:=by obtain⟨_,_,_,K5⟩:=Q5;exact K5.size
   exact⟨Y.heap.size,rfl,ey.Cr (by rw[Of.out];exact ax _ _ _ _ _ _ F),g_.stand AI (Q5.alloc _) iG F SA⟩
  refine gI (some 6) rfl (.pointer (some ⟨I.heap.size,0,none⟩)) (I.drew.alloc (.cells cO 95)) (by simp[execOp,go_sem]) ?_;have F:=an I.drew (.cells cO 95);have P4:=AI.alloc (.cells cO 95);have K_:=Kp.qs P4 ZM;refine⟨K_,?_⟩;refine oX 7 ?_;simp only[Act.put,pA,pB,pC];refine dW (some 35) rfl 188 #[.pointer (some ⟨xb,5,none⟩),.int .i64 v.num] (by simp[execOp,Act.eval,go_sem]) (.agg SA) _ (HE.out.1 _ (J.au P4)).out ?_;intro Y q5
  have U:=((q5.ew (J.au P4) (u*45+44)).trans K_)
  have Q5:=HE.out.2 _ _ (J.au P4) q5;have Uh:=J.low;have lH:=Q5.at_ (n:=I.heap.size) Uh (by exact F)
  have ub:(Y.setRow I.heap.size SA).cell? ⟨tb,u*45+44,none⟩=some (.int .i64 v.num):=by
   have am:tb≠I.heap.size:=by have:=Uh tb (.inr (.inl rfl));omega
   unfold World.cell? at*;simp only at*;rw[cG _ _ _ _ am];exact U
  refine⟨U,?_⟩;refine cK 9 (by kernel_rfl) rfl rfl 95 (.tmp 6) (.tmp 35) rfl rfl I.heap.size SA (by simp[Act.eval,Act.put]) (by simp[Act.eval,Act.put]) 95 cO lH sI (by rw[sS];rfl) sO ub ?_;refine bF (by kernel_rfl) (bG ?_) _;simp only[Act.put,pA,pB,pC];go_wp2
  go_meet
  exact⟨I.heap.size,rfl,ey.Cr (by rw[Of.out];exact ax _ _ _ _ _ _ lH),g_.stand P4 Q5 (aC _) lH SA⟩
 case rest=>
  obtain⟨fb,rfl,Gf,QC⟩:=hcut;have VP:=QC.at_ ad O;have ap:=QC;obtain⟨a6,hC,nC,KC⟩:=QC
  have d44:wc.cell? ⟨tb,u*45+44,none⟩=some (.int .i64 v.num):=by
   rw[<-HP.out];exact(hC.ew a0 (by omega)).trans (my VO 2)
  have KD:Kp (λ_=>False) wc wc.drew:=(Kp.refl _ _).drewN 1;have EO:=af (Ak xb 0 wc.drew ol.ai fb 0 [] v.now [] 95 (hC.au KD).kb.str (bA X.out.2.1.ai (by omega)) (ey.az Gf KD (λx=>x)) ao rfl);have HQ:=af (ae K2 ap);generalize P3:({dT with kZ:=(v.num:Int),st:=bV ol.ai v.now}:Rp)=RP at*;have HR:=af P3;clear P3 J K2 ap Gf d43 O ZM HE
  go_upto_region 8 with(fail)
  have D:wc.drew.cell? _=_:=d44;refine bf (λw'=>w'.cell? ⟨tb,u*45+44,none⟩=some (.int .i64 v.num)) (by kernel_rfl) ?_;refine bM 0 36 (.pointer (some ⟨tb,u*45,none⟩)) D ?_;refine bM 1 37 (.pointer (some ⟨tb,u*45,none⟩)) D ?_;refine bM 2 38 (.pointer (some ⟨tb,u*45+44,none⟩)) D ?_;refine eG 3 39 (.int .i64 v.num) rfl (λw' hS=>by simp[execOp,Act.eval,go_sem,hS]) D ?_;refine bM 4 40 (.pointer (some ⟨xb,0,none⟩)) D ?_;refine bM 5 41 (.pointer (some ⟨xb,0,none⟩)) D ?_;refine bM 6 42 (.pointer (some ⟨xb,0,none⟩)) D ?_;refine oX 7 ?_;refine dW (some 43) rfl 44 #[.pointer (some ⟨fb,0,none⟩),.pointer (some ⟨xb,0,none⟩)] (by simp[execOp,Act.eval,go_sem]) (.agg (dX (bV ol.ai v.now))) _ EO.out ?_;intro w6 K6;have xI:=K6.qs D;have pP:=(KD.trans K6).at_ VP (λx=>x)
  have ub:(w6.setRow w.heap.size (bJ RP)).cell? ⟨tb,u*45+44,none⟩=some (.int .i64 v.num):=by
   have am:tb≠w.heap.size:=by omega
   unfold World.cell? at*;simp only at*;rw[cG _ _ _ _ am];exact xI
  refine⟨xI,?_⟩;refine kE 8 44 (.agg (bJ RP)) rfl (λw' _=>fA 64 #[(1,.tmp 39),(4,.tmp 43)] rfl (bJ RP) [(1,.int .i64 v.num),(4,.agg (dX (bV ol.ai v.now)))] (by simp[Act.eval,Act.put]) (by rw[<-HR.out];kernel_rfl)) xI ?_;refine cK 9 (by kernel_rfl) rfl rfl 64 (.tmp 4) (.tmp 44) rfl rfl w.heap.size (bJ RP) (by simp[Act.eval,Act.put]) (by simp[Act.eval,Act.put]) 64 aH pP aQ rfl (cE _) ub ?_;refine kE 10 5 (.bool true) rfl (λw' _=>by rfl) ub ?_;refine bF (by kernel_rfl) (bG ?_) _;simp only[Act.put,pA,pB,pC];have j7:=ax w6 w.heap.size aH (bJ RP) 64 (0,0) pP;have HZ:=af (g_.dR HQ.out.1 (HQ.out.2.au (KD.trans K6)) pP (bJ RP));clear xI ub D K6 EO HQ
  go_wp2_with fail
  refine bg (bE rfl _ _ w.heap.size RP rfl j7) rfl ?_;rw[HF.out];exact⟨rfl,HZ.out⟩
