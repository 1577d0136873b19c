import Derived.Test.YtnlbchmfcebeeaaGreatTSa
import Derived.Test.YtnlbchmfcebeeaaGreatTHr
set_option maxHeartbeats 12800000
set_option maxRecDepth 100000
namespace Go.Proofs.YtnlbchmfcebeeaaGreat
open Go.Proofs.Tryz Ch
open Go.RowKit
namespace Ch
def CJ(tail text:ByteArray):ByteArray:=(tail++text).extract ((tail++text).size-24) (tail++text).size
def gu(joined:Nat)(tail:ByteArray)(at_:Int):ByteArray×Int:=
 if(joined:Int)<at_ then(⟨#[]⟩,14)
 else if at_<(joined:Int)-(tail.size:Int)then(⟨#[]⟩,15)
 else if 8<tail.size-(at_-((joined:Int)-(tail.size:Int))).toNat then(tail.extract (at_-((joined:Int)-(tail.size:Int))).toNat ((at_-((joined:Int)-(tail.size:Int))).toNat+8),0)
 else(tail.extract (at_-((joined:Int)-(tail.size:Int))).toNat tail.size,0)
end Ch
theorem FG(w:World)(u:ByteArray)(cap:Nat):Sem.run prog (convert 47 9 (.slice (some ⟨w.heap.size,0,none⟩) u.size cap)) (Lib.bytesWorld w 5 u)= .ok (.string u) (Lib.bytesWorld w 5 u):=by
 have hr:=SU.new w u;have hlen:(dW u).length=u.size:=bz u
 have:=run_convert_bytes_arg (P:=prog) (Lib.bytesWorld w 5 u) 47 5 underlying47 underlying5 w.heap.size 0 u.size cap (dW u) hlen (by
  intro i hi
  have h2:i<(dW u).length:=by omega
  have h3:=hr.cell (List.getElem?_eq_getElem h2)
  have h4:(dW u).getD i 0=(dW u)[i]:=by rw[List.getD_eq_getElem?_getD,List.getElem?_eq_getElem h2];rfl
  rw[h4,Nat.zero_add];exact h3) 9 underlying9
 rw[this,Al]
section
variable (w:World) {sb jo joined:Nat} {C:Array Value} {T:TypeId} {tail:ByteArray}
theorem Pu(hb:w.heap[sb]? =some (.cells C T (0,0)))(h0:C[jo]? =some (.int .i64 joined))(h1:C[jo+1]? =some (.string tail))(text:ByteArray)(ht:tail.size<=24)(hx:text.size<=10000000000)(hj:joined<=8000000000000000000):
 Calls prog 185 #[.pointer (some ⟨sb,jo,none⟩),.string text] w λx w'=>x= .returned (.tuple #[])/\
  w'.heap[sb]? =some (.cells ((C.setIfInBounds jo (.int .i64 ((joined+text.size:Nat):Int))).setIfInBounds (jo+1) (.string (CJ tail text))) T (0,0))/\Kp (λk=>k=sb) w w':=by
 have x0:w.cell? ⟨sb,jo,none⟩=some (.int .i64 joined):=by rw[World.cell?,hb];exact h0
 have f0:w.frozen? ⟨sb,jo,none⟩=false:=by simp[World.frozen?,hb]
 have ej:((joined+text.size:Nat):Int)=(joined:Int)+(text.size:Int):=by omega
 rw[ej];have K1:Kp (λk=>k=sb) w (w.setCell ⟨sb,jo,none⟩ (.int .i64 ((joined:Int)+(text.size:Int)))):=(Kp.refl (λk=>k=sb) w).setCell (p:=⟨sb,jo,none⟩) (λ_=>rfl) _;have hb1:(w.setCell ⟨sb,jo,none⟩ (.int .i64 ((joined:Int)+(text.size:Int)))).heap[sb]? =some (.cells (C.setIfInBounds jo (.int .i64 ((joined:Int)+(text.size:Int)))) T (0,0)):=ah _ hb
 have c1:(C.setIfInBounds jo (.int .i64 ((joined:Int)+(text.size:Int))))[jo+1]? =some (.string tail):=by rw[Array.getElem?_setIfInBounds_ne (by omega)];exact h1
 generalize C.setIfInBounds jo (.int .i64 ((joined:Int)+(text.size:Int)))=C1 at*;generalize hJT:CJ tail text=U;unfold CJ at hJT
 go_enter func185,ntmps185
 go_upto_region 1 with(fail)
 generalize w.setCell ⟨sb,jo,none⟩ (.int .i64 ((joined:Int)+(text.size:Int)))=w1 at*
 have x1:w1.cell? ⟨sb,jo+1,none⟩=some (.string tail):=by rw[World.cell?,hb1];exact c1
 have hadd:=λw'=>run_string_add_sum (P:=prog) w' tail text (by omega)
 have hal:(tail++text).size=tail.size+text.size:=ByteArray.size_append;generalize tail++text=all at*;have hcv:=Lib.run_convert_string_bytes (P:=prog) w1 9 47 5 U underlying9 underlying47 underlying5;have ae5:=FG w1 U (grownCap w1 U.size 0 5);have KB:=wU w1 5 U;have hb2:=KB.at_ hb1 (λx=>x);generalize grownCap w1 U.size 0 5=cp at*;generalize Lib.bytesWorld w1 5 U=w2 at*
 have x2:w2.cell? ⟨sb,jo+1,none⟩=some (.string tail):=by rw[World.cell?,hb2];exact c1
 have f2:w2.frozen? ⟨sb,jo+1,none⟩=false:=by simp[World.frozen?,hb2]
 have hb3:(w2.setCell ⟨sb,jo+1,none⟩ (.string U)).heap[sb]? =some (.cells (C1.setIfInBounds (jo+1) (.string U)) T (0,0)):=ah _ hb2
 have K3:Kp (λk=>k=sb) w (w2.setCell ⟨sb,jo+1,none⟩ (.string U)):=((K1.trans' KB (λi _ x=>x.elim)).setCell (p:=⟨sb,jo+1,none⟩) (λ_=>rfl) _)
 have HF:=hid (ae hb3 K3);clear hb3 K3 KB K1 hb hb1 hb2 c1 h0 h1 x0 f0
 by_cases h24:24<all.size
 ·rw[hal]at hJT
  have hf1:(tail.size:Int)+(text.size:Int)-24<=(tail.size:Int)+(text.size:Int):=by omega
  have hf2:(0:Int)<=(tail.size:Int)+(text.size:Int)-24:=by omega
  have akF:(24:Int)<(tail.size:Int)+(text.size:Int):=by omega
  have hf3:((tail.size:Int)+(text.size:Int)-24).toNat=tail.size+text.size-24:=by omega
  go_wp2_with fail
  go_end0
  exact⟨rfl,HF.out.1,HF.out.2⟩
 have akF:¬(24:Int)<(tail.size:Int)+(text.size:Int):=by omega
 have hf:all.size-24=0:=by omega
 rw[hf,hal]at hJT
 go_wp2_with fail
 go_end0
 exact⟨rfl,HF.out.1,HF.out.2⟩
theorem Pv(hb:w.heap[sb]? =some (.cells C T (0,0)))(h0:C[jo]? =some (.int .i64 joined))(h1:C[jo+1]? =some (.string tail))(at_:Int)(ht:tail.size<=24)(htj:tail.size<=joined)(hj:joined<=8000000000000000000):
 Calls prog 189 #[.pointer (some ⟨sb,jo,none⟩),.int .i64 at_] w λx w'=>x= .returned (.tuple #[.string (gu joined tail at_).1,.int .i64 (gu joined tail at_).2])/\Kp (λ_=>False) w w':=by
 have x0:w.cell? ⟨sb,jo,none⟩=some (.int .i64 joined):=by rw[World.cell?,hb];exact h0
 have HB:=hid (ae hb h1);clear hb h0 h1
 by_cases q1:(joined:Int)<at_
 ·have HR:gu joined tail at_=(⟨#[]⟩,14):=by unfold gu;rw[if_pos q1]
  rw[HR];clear HR
  go_enter func189,ntmps189
  go_wp2;go_ret2;exact⟨rfl,Kp.refl _ _⟩
 by_cases q2:at_<(joined:Int)-(tail.size:Int)
 ·have HR:gu joined tail at_=(⟨#[]⟩,15):=by unfold gu;rw[if_neg q1,if_pos q2]
  rw[HR];clear HR
  have x1:w.cell? ⟨sb,jo+1,none⟩=some (.string tail):=by rw[World.cell?,HB.out.1];exact HB.out.2
  go_enter func189,ntmps189
  go_upto_region 3 with(fail)
  go_quiet (fail)
  rename_i nq;have KD:=(Kp.refl (λ_=>False) w).drewN nq;go_wp2;go_ret2;exact⟨rfl,KD⟩
 obtain⟨k,hk⟩:∃k:Nat,at_-((joined:Int)-(tail.size:Int))=k:=⟨(at_-((joined:Int)-(tail.size:Int))).toNat,by omega⟩
 have hkt:k<=tail.size:=by omega
 by_cases q3:8<tail.size-k
 ·have HR:gu joined tail at_=(tail.extract k (k+8),0):=by unfold gu;rw[if_neg q1,if_neg q2,hk];simp[q3]
  rw[HR];clear HR
  have x1:w.cell? ⟨sb,jo+1,none⟩=some (.string tail):=by rw[World.cell?,HB.out.1];exact HB.out.2
  have HE:=hid (show(tail.extract k tail.size).extract 0 8=tail.extract k (k+8)by
   apply ByteArray.ext;simp[ByteArray.data_extract,Array.extract_extract];congr 1;omega)
  have hes:(tail.extract k tail.size).size=tail.size-k:=by simp[ByteArray.size_extract]
  go_enter func189,ntmps189
  go_upto_region 3 with(fail)
  go_quiet (fail)
  rename_i nq;have KD:=(Kp.refl (λ_=>False) w).drewN nq;have x1:(w.drewN nq).cell? ⟨sb,jo+1,none⟩=some (.string tail):=x1;go_wp2;go_ret2;exact⟨by rw[<-HE.out];rfl,KD⟩
 have HR:gu joined tail at_=(tail.extract k tail.size,0):=by unfold gu;rw[if_neg q1,if_neg q2,hk];simp[q3]
 rw[HR];clear HR
 have x1:w.cell? ⟨sb,jo+1,none⟩=some (.string tail):=by rw[World.cell?,HB.out.1];exact HB.out.2
 have hes:(tail.extract k tail.size).size=tail.size-k:=by simp[ByteArray.size_extract]
 go_enter func189,ntmps189
 go_upto_region 3 with(fail)
 go_quiet (fail)
 rename_i nq;have KD:=(Kp.refl (λ_=>False) w).drewN nq;have x1:(w.drewN nq).cell? ⟨sb,jo+1,none⟩=some (.string tail):=x1;go_wp2;go_ret2;exact⟨rfl,KD⟩
end
def putAt(a:Array Value)(off:Nat)(vs:List Value):Array Value:=(a.toList.take off++vs++a.toList.drop (off+vs.length)).toArray
theorem addr_add(b o j:Nat):(⟨b,o,none⟩:Addr).add j=⟨b,o+j,none⟩:=by
 unfold Addr.add;split<;>simp_all
section
variable {P:Program}
theorem uZ(g off:Nat)(t:TypeId):∀(vs:List Value) (i:Nat) (cur:Array Value) (w:World),w.heap[g]? =some (.cells cur t (0,0))->off+i+vs.length<=cur.size->(∀v∈vs,v.oneCell'=true)->
 (storeCells ⟨g,off,none⟩ vs i).run P w= .ok () (w.setRow g (putAt cur (off+i) vs)):=by
 intro vs
 induction vs with
 |nil=>
  intro i cur w hg hl h1
  have e:putAt cur (off+i) []=cur:=by simp[putAt]
  rw[e];have:=run_storeCells_from (P:=P) g t [] cur.size cur w hg (by simp) (by simp);simpa[storeCells,List.take_of_length_le]using this
 |cons v rest ihr=>?_
 intro i cur w hg hl h1;simp only[List.length_cons]at hl
 have hi:off+i<cur.size:=by omega
 have hcell:w.cell? ⟨g,off+i,none⟩=some cur[off+i]:=by simp[World.cell?,hg,hi]
 have hfro:w.frozen? ⟨g,off+i,none⟩=false:=by simp[World.frozen?,hg]
 have hst:(store ((⟨g,off,none⟩:Addr).add i) v).run P w= .ok () (w.setRow g (cur.setIfInBounds (off+i) v)):=by
  rw[addr_add,run_store P w _ v _ (h1 v (by simp)),hcell];simp[hfro,setCell_eq_setRow w g (off+i) cur t (0,0) v hg]
 have ih:=ihr (i+1) (cur.setIfInBounds (off+i) v) (w.setRow g (cur.setIfInBounds (off+i) v)) (setRow_heap w g cur _ t _ hg) (by simp;omega) (λx hx=>h1 x (by simp[hx]));simp only[storeCells,Sem.run_bind,hst,Result.andThen_ok,ih,setRow_setRow]
 congr 2
 unfold putAt
 congr 1
 apply List.ext_getElem?;intro k;simp only[Array.toList_setIfInBounds,List.getElem?_append,List.length_take,List.length_set,Array.length_toList,List.length_append,List.length_cons,List.getElem?_take,List.getElem?_drop,List.getElem?_set]
 by_cases hk:k<off+i
 ·simp[show k<off+(i+1)by omega,show¬off+i=k by omega,hk,show k<cur.size by omega,show k<min (off+i) cur.size by omega,show k<min (off+i) cur.size+(rest.length+1)by omega,show k<min (off+(i+1)) cur.size by omega,show k<min (off+(i+1)) cur.size+rest.length by omega]
 by_cases hk2:k=off+i
 ·subst hk2
  simp[show min (off+(i+1)) cur.size=off+i+1 by omega,show min (off+i) cur.size=off+i by omega,hi];intro h;omega
 have e1:min (off+(i+1)) cur.size=off+i+1:=by omega
 have e2:min (off+i) cur.size=off+i:=by omega
 rw[e1,e2];simp only[show¬k<off+i+1 by omega,show¬k<off+i by omega,if_false]
 by_cases hk3:k<off+i+1+rest.length
 ·simp only[hk3,show k<off+i+(rest.length+1)by omega,if_true]
  rw[show k-(off+i)=(k-(off+i+1))+1 by omega,List.getElem?_cons_succ]
 simp only[hk3,show¬k<off+i+(rest.length+1)by omega,if_false];simp[show off+(i+1)+rest.length+(k-(off+i+1+rest.length))=k by omega,show off+i+(rest.length+1)+(k-(off+i+(rest.length+1)))=k by omega];intro h;omega
theorem xz(w:World)(g off:Nat)(t ty:TypeId)(old:Array Value)(l:List Value)(hg:w.heap[g]? =some (.cells old t (0,0)))(hi:(P.info? ty).map (·.size)=some l.length)
 (ho:off+l.length<=old.size) (h1:∀v∈l,v.oneCell'=true):
 (storeVar ty ⟨g,off,none⟩ (.agg l.toArray)).run P w= .ok () (w.setRow g (putAt old off l)):=by
 have:=uZ (P:=P) g off t l 0 old w hg (by omega) h1
 cases hq:P.info? ty with
 |none=>simp[hq]at hi
 |some i=>?_
 have hs:l.length=i.size:=by simp[hq]at hi;omega
 simp[storeVar,sizeOf,typeInfo,hq,Value.cells,hs,this]
theorem ph{o:Oper}{a:Act}{w:World}{K:Act->World->Prop}{Q:Exit->Act->World->Prop}(ty:TypeId)(x y:Operand)(ho:o.op= .store ty x y)
 (g off:Nat) (l:List Value) (hx:a.eval x= .pointer (some ⟨g,off,none⟩)) (hy:a.eval y= .agg l.toArray)
 (t:TypeId) (old:Array Value) (hg:w.heap[g]? =some (.cells old t (0,0))) (hi:(P.info? ty).map (·.size)=some l.length)
 (hold:off+l.length<=old.size) (h1:∀v∈l,v.oneCell'=true)
 (h:K (a.put o.dst undef) (w.setRow g (putAt old off l))):o.wp P a w K Q:=by
 unfold Oper.wp execOp;simp only[ho,hx,hy,Instr.storeAt,Instr.sureAddr,Sem.run_bind,Sem.run_pure,Result.andThen_ok,xz w g off t ty old l hg hi hold h1];exact h
theorem iR{ops:Array Oper}{rest:List Oper}{o:Oper}{a:Act}{w:World}{Q:Exit->Act->World->Prop}(hgd:o.guard=none)(ty:TypeId)(x y:Operand)(ho:o.op= .store ty x y)
 (g off:Nat) (l:List Value) (hx:a.eval x= .pointer (some ⟨g,off,none⟩)) (hy:a.eval y= .agg l.toArray)
 (t:TypeId) (old:Array Value) (hg:w.heap[g]? =some (.cells old t (0,0))) (hi:(P.info? ty).map (·.size)=some l.length)
 (hold:off+l.length<=old.size) (h1:∀v∈l,v.oneCell'=true)
 (h:wpList P ops Q rest (a.put o.dst undef) (w.setRow g (putAt old off l))):wpList P ops Q (o::rest) a w:=
 wpList_plain hgd λ_ hK=>ph ty x y ho g off l hx hy t old hg hi hold h1 (hK _ _ h)
end
section
variable {α:Type} (f:α->List Value) (n:Nat)
theorem tV:∀(l:List α),(∀a∈l,(f a).length=n)->(l.flatMap f).length=l.length*n:=by
 intro l
 induction l with
 |nil=>simp
 |cons a l ih=>?_
 intro h;rw[List.flatMap_cons,List.length_append,h a (by simp),ih (λx hx=>h x (by simp[hx])),List.length_cons,Nat.succ_mul];omega
theorem LB:∀(l:List α) (u:Nat) (a b:α) (j:Nat) (vs:List Value),(∀a∈l,(f a).length=n)->l[u]? =some a->j+vs.length<=n->f b=(f a).take j++vs++(f a).drop (j+vs.length)->
 (l.flatMap f).take (u*n+j)++vs++(l.flatMap f).drop (u*n+j+vs.length)=(l.set u b).flatMap f:=by
 intro l
 induction l with
 |nil=>intro u a b j vs hl hu hj hb;simp at hu
 |cons x l ihl=>?_
 intro u a b j vs hl hu hj hb;have hx:=hl x (by simp)
 cases u with
 |zero=>
  simp at hu;subst hu;simp only[List.flatMap_cons,List.set_cons_zero,Nat.zero_mul,Nat.zero_add];rw[hb,List.take_append_of_le_length (by omega),List.drop_append_of_le_length (by omega)];simp[List.append_assoc]
 |succ u=>?_
 have ih:=ihl u a b j vs (λy hy=>hl y (by simp[hy])) (by simpa using hu) hj hb;simp only[List.flatMap_cons,List.set_cons_succ];rw[<-ih,Nat.succ_mul,show u*n+n+j=(f x).length+(u*n+j)by omega,List.take_length_add_append,show(f x).length+(u*n+j)+vs.length=(f x).length+(u*n+j+vs.length)by omega,List.drop_length_add_append];simp[List.append_assoc]
theorem FH(l:List α)(u:Nat)(a b:α)(j:Nat)(vs:List Value)(hl:∀a∈l,(f a).length=n)(hu:l[u]? =some a)(hj:j+vs.length<=n)(hb:f b=(f a).take j++vs++(f a).drop (j+vs.length)):
 putAt (l.flatMap f).toArray (u*n+j) vs=((l.set u b).flatMap f).toArray:=by
 unfold putAt;rw[<-LB f n l u a b j vs hl hu hj hb]
theorem CK(l:List α)(u:Nat)(a b:α)(j:Nat)(v:Value)(hl:∀a∈l,(f a).length=n)(hu:l[u]? =some a)(hj:j<n)(hb:f b=(f a).set j v):
 (l.flatMap f).set (u*n+j) v=(l.set u b).flatMap f:=by
 have ha:=hl a (List.mem_of_getElem? hu)
 have h1:u*n+j<(l.flatMap f).length:=by
  rw[tV f n l hl];have:=(List.getElem?_eq_some_iff.1 hu).1
  calc u*n+j<u*n+n:=by omega
   _=(u+1)*n:=by rw[Nat.succ_mul]
   _<=l.length*n:=Nat.mul_le_mul_right _ (by omega)
 rw[<-LB f n l u a b j [v] hl hu (by simp;omega) (by rw[hb,List.set_eq_take_append_cons_drop,if_pos (by omega)];simp)];rw[List.set_eq_take_append_cons_drop,if_pos h1];simp
theorem jP(l:List α)(u:Nat)(a:α)(j:Nat)(hl:∀a∈l,(f a).length=n)(hu:l[u]? =some a)(hj:j<n):(l.flatMap f)[u*n+j]? =(f a)[j]?:=by
 induction l generalizing u with
 |nil=>simp at hu
 |cons x l ih=>?_
 have hx:=hl x (by simp);rw[List.flatMap_cons]
 cases u with
 |zero=>simp at hu;subst hu;rw[Nat.zero_mul,Nat.zero_add,List.getElem?_append_left (by omega)]
 |succ u=>?_
 rw[Nat.succ_mul,show u*n+n+j=(f x).length+(u*n+j)by omega,List.getElem?_append_right (by omega),Nat.add_sub_cancel_left];exact ih u (λy hy=>hl y (by simp[hy])) (by simpa using hu)
end
theorem tW{w:World}{B g cap n size:Nat}{e:TypeId}{xs:List Value}(h:w.ownsRow B e size (.slice (some ⟨g,0,none⟩) n cap) n xs)(i:Nat)(v:Value):
 (w.setCell ⟨g,i,none⟩ v).ownsRow B e size (.slice (some ⟨g,0,none⟩) n cap) n (xs.set i v):=by
 refine⟨by rw[List.length_set];exact h.1,?_⟩
 rcases h.2 with⟨x,_⟩|⟨g',cap',cur,e1,hb,hg,h1,h2,h3,h4⟩
 ·simp at x
 simp only[Value.slice.injEq,Option.some.injEq,Addr.mk.injEq]at e1;obtain⟨⟨rfl,_⟩,_,rfl⟩:=e1;exact .inr ⟨g,cap,cur.setIfInBounds i v,rfl,hb,ah _ hg,h1,h2,by simpa using h3,by rw[Array.toList_setIfInBounds,List.take_set,h4]⟩
namespace Ch
def vJ:Sd:=⟨List.replicate 16 false,List.replicate 16 0,⟨#[]⟩,0,0,0⟩
def dF(l:List Vr):Sd:=match l.getLast? with|some v=>v.now|none=>vJ
def qT(l:List Vr)(n:Int):List Vr×Bool:=match l.findIdx? (λv=>(v.num:Int)==n)with
 |some k=>(l.modify k (λv=>{v with pins:=v.pins+1}),true)
 |none=>(l,false)
theorem LC{l:List Vr}{i:Nat}{v:Vr}{n:Int}(hv:l[i]? =some v)(hq:(v.num:Int)=n)(h:∀j u,j<i->l[j]? =some u->¬(u.num:Int)=n):qT l n=(l.set i {v with pins:=v.pins+1},true):=by
 obtain⟨hi1,hi2⟩:=List.getElem?_eq_some_iff.1 hv
 have e:l.findIdx? (λv=>(v.num:Int)==n)=some i:=by
  rw[List.findIdx?_eq_some_iff_getElem];refine⟨hi1,by rw[hi2];simpa using hq,?_⟩;intro j hj;simpa using h j _ hj (List.getElem?_eq_getElem (by omega))
 unfold qT;rw[e];simp only[Prod.mk.injEq,and_true];apply List.ext_getElem?;intro j;rw[List.getElem?_modify,List.getElem?_set]
 by_cases ej:i=j
 ·subst ej;simp[hi1,hi2]
 simp[ej]
theorem FI{l:List Vr}{n:Int}(h:∀v∈l,¬(v.num:Int)=n):qT l n=(l,false):=by
 have e:l.findIdx? (λv=>(v.num:Int)==n)=none:=by
  rw[List.findIdx?_eq_none_iff];intro v hv;simpa using h v hv
 unfold qT;rw[e]
def DT(l:List Vr)(i:Nat):List Value:=(l.take i).map (λv=>.int .i64 v.num)++List.replicate (l.length-i) (.int .i64 0)
theorem Yd(l:List Vr):(madeCells #[Value.int .i64 0] l.length).toList=DT l 0:=by
 unfold DT;simp only[List.take_zero,List.map_nil,List.nil_append,Nat.sub_zero];apply List.ext_getElem?;intro j;unfold madeCells;simp only[Array.toList_map,List.getElem?_map,Array.toList_range,List.getElem?_replicate]
 by_cases h:j<l.length
 ·simp[h,Nat.mod_one]
 simp[h]
theorem aaW{l:List Vr}{i:Nat}(h:i<l.length):(DT l i)[i]? =some (.int .i64 0):=by
 unfold DT;rw[List.getElem?_append_right (by rw[List.length_map,List.length_take];omega),List.length_map,List.length_take,show min i l.length=i by omega,Nat.sub_self,List.getElem?_replicate,if_pos (by omega)]
theorem Ye{l:List Vr}{i:Nat}{v:Vr}(hv:l[i]? =some v):(DT l i).set i (.int .i64 v.num)=DT l (i+1):=by
 obtain⟨hi,e⟩:=List.getElem?_eq_some_iff.1 hv;unfold DT;rw[List.set_append_right _ _ (by rw[List.length_map,List.length_take];omega),show l.take (i+1)=l.take i++[v]by rw[<-e,List.take_append_getElem hi]];simp only[List.map_append,List.map_cons,List.map_nil,List.append_assoc,List.singleton_append,List.length_map,List.length_take,show min i l.length=i by omega,Nat.sub_self];rw[show l.length-i=(l.length-(i+1))+1 by omega,List.replicate_succ,List.set_cons_zero]
theorem UE(l:List Vr):DT l l.length=l.map (λv=>.int .i64 v.num):=by unfold DT;simp
end Ch
theorem QW{v:Vr}(h:v.now.Wf)(n:Nat):sF {v with pins:=n}=(sF v).set 37 (.int .i64 n):=by
 unfold sF;rw[show(37:Nat)=36+1 from rfl,List.set_cons_succ,List.set_append_right _ _ (by rw[bE h];exact Nat.le_refl _),bE h];rfl
theorem last_at{l:List Vr}{v:Vr}(h:l[l.length-1]? =some v):dF l=v.now:=by
 unfold dF;rw[List.getLast?_eq_getElem?,h]
theorem QX{v:Vr}:∀j u,(ax v.now)[j]? =some u->(sF v)[1+j]? =some u:=by
 intro j u h;unfold sF;rw[show 1+j=j+1 by omega,List.getElem?_cons_succ,List.getElem?_append_left (List.getElem?_eq_some_iff.1 h).1];exact h
section
variable (w:World) {B sb so:Nat} {C:Array Value} {T:TypeId} {made:Nat} {kept:List Vr} {kv:Value}
theorem CL(h:vW w B sb so C T made kept kv)(hk:0<kept.length)(hk2:kept.length<=1000):
 Calls prog 259 #[.pointer (some ⟨sb,so,none⟩)] w λx w'=>x= .returned (.agg (ax (dF kept)).toArray)/\Kp (λ_=>False) w w':=by
 obtain⟨ds,hds,eY⟩:=eT
 obtain⟨v,hv⟩:∃v,kept[kept.length-1]? =some v:=⟨_,List.getElem?_eq_getElem (by omega)⟩
 have HL:=hid (last_at hv);have hvw:=h.wf v (List.mem_of_getElem? hv);have K1:Kp (λ_=>False) w (w.alloc (.cells aW 95)):=(Kp.refl _ _).alloc _;have hnew:=heap_alloc_new w (.cells aW 95);have h1:=h.ai K1;obtain⟨g,cap,sJ⟩:=h1.rowAt hk;have hcs:=h1.cells sJ hv
 have hcs':∀j u,(ax v.now)[j]? =some u->(w.alloc (.cells aW 95)).cell? ⟨g,((kept.length:Int)-1).toNat*38+1+j,none⟩=some u:=by
  intro j u hj;have:=hcs (1+j) u (QX j u hj);rw[show((kept.length:Int)-1).toNat=kept.length-1 by omega];rw[Nat.add_assoc];exact this
 have x1:=h1.x1;rw[sJ]at x1
 have sI:(prog.info? 95).map (·.size)=some (ax v.now).length:=by rw[bE hvw];exact bV
 have sI2:=fG hvw;have sS:=gz hvw;have sO:=j3 v.now
 have hlt:¬(kept.length:Int)=0:=by omega
 have hgn:g≠w.heap.size:=by
  intro e;have hr:=h1.row;rw[sJ]at hr;obtain⟨cur,hc⟩:=br hr (k:=g) rfl;rw[e,hnew]at hc;simp at hc
 have hbn:w.heap[g]? ≠none:=by
  have hr:=h.row;rw[sJ]at hr;obtain⟨cur,hc⟩:=br hr (k:=g) rfl;rw[hc];simp
 have HZ:=hid (show sb≠w.heap.size by have:=lt_of_block h.blk;omega);have HH:=hid (ae K1 hbn);clear h h1 K1 hbn hcs hv sJ;generalize ye:(ax v.now)=SL at*;have Nf:=hid ye;clear ye
 go_enter func259,ntmps259
 go_upto_region 1 with(fail)
 generalize w.alloc (.cells aW 95)=w1 at*
 go_upto_region 3 with(fail)
 have hS0:w1.drew.cell? ⟨sb,so+1,none⟩=some (.slice (some ⟨g,0,none⟩) kept.length cap)/\(∀j u,SL[j]? =some u->w1.drew.cell? ⟨g,((kept.length:Int)-1).toNat*38+1+j,none⟩=some u):=⟨x1,hcs'⟩
 have hw:IntKind.i64.wrap ((kept.length:Int)-1)=(kept.length:Int)-1:=by rw[IntKind.wrap_i64];omega
 have h0l:(1:Int)<=(kept.length:Int):=by omega
 have h0m:¬(kept.length:Int)<=(kept.length:Int)-1:=by omega
 refine az (λw'=>w'.cell? ⟨sb,so+1,none⟩=some (.slice (some ⟨g,0,none⟩) kept.length cap)/\(∀j u,SL[j]? =some u->w'.cell? ⟨g,((kept.length:Int)-1).toNat*38+1+j,none⟩=some u)) (by kernel_rfl) ?_;refine aU 0 10 (.pointer (some ⟨sb,so,none⟩)) hS0 ?_;refine aU 1 11 (.pointer (some ⟨sb,so,none⟩)) hS0 ?_;refine aU 2 12 (.pointer (some ⟨sb,so+1,none⟩)) hS0 ?_;refine dM 3 13 (.slice (some ⟨g,0,none⟩) kept.length cap) rfl (λw' hS=>by simp[execOp,Act.eval,go_sem,hS.1]) hS0 ?_;refine aU 4 14 (.pointer (some ⟨sb,so,none⟩)) hS0 ?_;refine aU 5 15 (.pointer (some ⟨sb,so,none⟩)) hS0 ?_;refine aU 6 16 (.pointer (some ⟨sb,so+1,none⟩)) hS0 ?_;refine dM 7 17 (.slice (some ⟨g,0,none⟩) kept.length cap) rfl (λw' hS=>by simp[execOp,Act.eval,go_sem,hS.1]) hS0 ?_;refine aU 8 18 (.int .i64 kept.length) hS0 ?_;refine dM 9 19 (.int .i64 ((kept.length:Int)-1)) rfl (λw' _=>by simp[execOp,Act.eval,go_sem,hw]) hS0 ?_;refine dM 10 20 (.pointer (some ⟨g,((kept.length:Int)-1).toNat*38,none⟩)) rfl (λw' _=>by simp[execOp,Act.eval,go_sem,h0l,h0m]) hS0 ?_;refine aU 11 21 (.pointer (some ⟨g,((kept.length:Int)-1).toNat*38+1,none⟩)) hS0 ?_
 refine dM 12 22 (.agg SL.toArray) rfl (λw' hS=>ei 95 (.tmp 21) rfl g (((kept.length:Int)-1).toNat*38+1) rfl SL ds hS.2 hds eY sI) hS0 ?_;have KF:Kp (λ_=>False) w (w1.drew.setRow w.heap.size SL.toArray):=(HH.out.1.drewN 1).setRow (λx=>by omega) _;have ir:=setRow_heap w1.drew w.heap.size aW SL.toArray 95 (0,0) hnew
 have hcF:∀k i,k≠w.heap.size->(w1.drew.setRow w.heap.size SL.toArray).cell? ⟨k,i,none⟩=w1.drew.cell? ⟨k,i,none⟩:=by
  intro k i hk;unfold World.cell?;simp only;rw[setRow_other _ _ _ _ hk]
 have hsn:sb≠w.heap.size:=HZ.out;refine bF 13 (by kernel_rfl) rfl rfl 95 (.tmp 2) (.tmp 22) rfl rfl w.heap.size SL.toArray rfl rfl 95 aW hnew sI2 (by rw[sS];rfl) sO ⟨by rw[hcF _ _ hsn];exact hS0.1,λj u hj=>by rw[hcF _ _ hgn];exact hS0.2 j u hj⟩ ?_;refine wpAnyH_done (by kernel_rfl) (NoPanic.normal ?_) _
 go_wp2_with fail
 refine bodyPost_ret (results_cell_row rfl _ _ w.heap.size 95 SL.toArray (0,0) ds rfl ir hds (by cases ds<;>first|rfl|exact absurd eY (by simp[ak])) sI2) rfl ?_;rw[HL.out,Nf.out];exact⟨rfl,KF⟩
theorem LD(h:vW w B sb so C T made kept kv)(hk:kept.length<=1000):
 Calls prog 138 #[.pointer (some ⟨sb,so,none⟩)] w λx w'=>x= .returned (.slice (some ⟨w.heap.size,0,none⟩) kept.length kept.length)/\w'.ownsRow w.heap.size 3 1 (.slice (some ⟨w.heap.size,0,none⟩) kept.length kept.length) kept.length (kept.map λv=>.int .i64 v.num)/\Kp (λ_=>False) w w':=by
 obtain⟨i0,hi,hz0,hz1,hz2⟩:=info_parts lI;obtain⟨ao,cap,sJ⟩:=aF h.row;have x1:=h.x1;rw[sJ]at x1;have HH:=hid h;clear h
 go_enter func138,ntmps138
 go_wp2_with (at_make;refine wpList_make_full w rfl (.tmp 9) (.tmp 9) 38 rfl w.heap.size 3 i0 (.int .i64 0) 1 underlying38 hi hz0 hz1 .i64 .i64 kept.length kept.length kept.length rfl rfl rfl rfl ?c1 ?c2 (Nat.le_refl _) ?_)
 case c1=>rw[hz2];omega
 case c2=>unfold maxLen;omega
 intro w4 o4 g4;have K4:Kp (λ_=>False) w w4:=(Kp.refl _ _).grown g4 (λi hi _=>by simp at hi);rw[Yd kept]at o4;have hgs:w.heap.size<w4.heap.size:=(o4.lt _ rfl).2;generalize hg:w.heap.size=g at*;clear g4 x1
 go_wp2_with fail
 go_loopw [4] (λiv wr=>∃i:Nat,iv= .int .i64 i/\i<=kept.length/\wr.ownsRow g 3 1 (.slice (some ⟨g,0,none⟩) kept.length kept.length) kept.length (DT kept i)/\Kp (λk=>k=g) w4 wr) (λiv _=>kept.length-(intOf iv).toNat)
 case atStart=>exact⟨0,rfl,Nat.zero_le _,o4,Kp.refl _ _⟩
 case round=>
  obtain⟨i,rfl,hil,ho,KW⟩:=hrel;have KF:Kp (λ_=>False) w wr:=K4.trans' KW (λi hi x=>by omega)
  by_cases hlt:i<kept.length
  ·have hlt':(i:Int)<(kept.length:Int):=by omega
   have hr:=HH.out.ai KF;obtain⟨g2,cap2,Ps⟩:=hr.rowAt (by omega)
   obtain⟨v,hv⟩:∃v,kept[i]? =some v:=⟨_,List.getElem?_eq_getElem hlt⟩
   have y1:=hr.x1;rw[Ps]at y1;have y2:wr.cell? ⟨g2,i*38,none⟩=some (.int .i64 v.num):=hr.cells Ps hv 0 _ (xy v);have hc:=ho.cellAt i (by omega);rw[aaW hlt]at hc
   have hf:wr.frozen? ⟨g,i,none⟩=false:=by
    obtain⟨cur,Ji⟩:=br ho (k:=g) rfl;simp[World.frozen?,Ji]
   have ho2:=tW ho i (.int .i64 v.num);rw[Ye hv]at ho2;have K6:Kp (λk=>k=g) w4 (wr.setCell ⟨g,i,none⟩ (.int .i64 v.num)):=KW.setCell (p:=⟨g,i,none⟩) (λ_=>rfl) _;have HN:=hid (ae ho2 K6);clear ho2 K6 ho KW KF hr hv Ps
   go_wp2_with fail
   go_roundw
   case rel=>exact⟨i+1,by go_num,by omega,HN.out.1,HN.out.2⟩
   case measure=>simp[intOf];omega
  have hlt':¬(i:Int)<(kept.length:Int):=by omega
  obtain rfl:i=kept.length:=by omega
  rw[UE]at ho;clear KW K4 o4;go_wp2;go_ret;exact⟨rfl,ho,KF⟩
theorem aaX(h:vW w B sb so C T made kept kv)(hk:kept.length<=1000)(n:Int)(hn:∀v∈kept,v.pins<=1000000000000000):
 Calls prog 227 #[.pointer (some ⟨sb,so,none⟩),.int .i64 n] w λx w'=>x= .returned (.bool (qT kept n).2)/\vW w' B sb so C T made (qT kept n).1 kv/\Kp (λk=>kv.ownBlock=some k) w w':=by
 have HH:=hid (ae h hn);clear h hn
 go_enter func227,ntmps227
 go_wp2_with fail
 go_loopw [5] (λiv wr=>∃i:Nat,iv= .int .i64 i/\i<=kept.length/\wr=w/\Hid (∀j v,j<i->kept[j]? =some v->¬(v.num:Int)=n)) (λiv _=>kept.length-(intOf iv).toNat)
 case atStart=>exact⟨0,rfl,Nat.zero_le _,rfl,hid (λj v hj=>by omega)⟩
 case round=>
  obtain⟨i,rfl,hil,rfl,HB⟩:=hrel;have x1:=HH.out.1.x1
  by_cases hlt:i<kept.length
  ·have hlt':(i:Int)<(kept.length:Int):=by omega
   obtain⟨g,cap,sJ⟩:=HH.out.1.rowAt (by omega)
   obtain⟨v,hv⟩:∃v,kept[i]? =some v:=⟨_,List.getElem?_eq_getElem hlt⟩
   rw[sJ]at x1;have hvw:=HH.out.1.wf v (List.mem_of_getElem? hv);have y0:wr.cell? ⟨g,i*38,none⟩=some (.int .i64 v.num):=HH.out.1.cells sJ hv 0 _ (xy v);have y37:=HH.out.1.cells sJ hv 37 _ (CI hvw);have hp:=HH.out.2 v (List.mem_of_getElem? hv)
   by_cases hq:(v.num:Int)=n
   ·have hq':((v.num:Int)==n)=true:=by simp[hq]
    have HQ:=hid hq;have HP:=hid (LC hv hq HB.out);have hr:=HH.out.1.row;rw[sJ]at hr
    have hf:wr.frozen? ⟨g,i*38+37,none⟩=false:=by
     obtain⟨cur,Ji⟩:=br hr (k:=g) rfl;simp[World.frozen?,Ji]
    have ho2:=tW hr (i*38+37) (.int .i64 ((v.pins:Int)+1))
    have hgs:g≠sb:=by
     have:=HH.out.1.XZ;rw[sJ]at this;intro e;subst e;exact this rfl
    have K6:Kp (λk=>kv.ownBlock=some k) wr (wr.setCell ⟨g,i*38+37,none⟩ (.int .i64 ((v.pins:Int)+1))):=(Kp.refl (λk=>kv.ownBlock=some k) wr).setCell (p:=⟨g,i*38+37,none⟩) (λ_=>by rw[sJ];rfl) _;have hb6:=K6.at_ HH.out.1.blk HH.out.1.XZ
    have yz:vW (wr.setCell ⟨g,i*38+37,none⟩ (.int .i64 ((v.pins:Int)+1))) B sb so C T made (kept.set i {v with pins:=v.pins+1}) kv:=by
     refine⟨hb6,HH.out.1.c0,HH.out.1.c1,?_,?_,HH.out.1.ne⟩
     ·rw[sJ,List.length_set]
      have e:=CK sF 38 kept i v {v with pins:=v.pins+1} 37 (.int .i64 ((v.pins:Int)+1)) (λa ha=>rN (HH.out.1.wf a ha)) hv (by omega) (QW hvw (v.pins+1));unfold gh at ho2⊢;rw[e]at ho2;exact ho2
     intro a ha
     rcases List.mem_or_eq_of_mem_set ha with ha|rfl
     ·exact HH.out.1.wf a ha
     exact hvw
    have HN:=hid (ae yz K6);clear yz K6 hb6 ho2 hr HB hq sJ;go_wp2;go_ret;rw[HP.out];exact⟨rfl,HN.out.1,HN.out.2⟩
   have hq':((v.num:Int)==n)=false:=by simp[hq]
   have HN:=hid (show∀j u,j<i+1->kept[j]? =some u->¬(u.num:Int)=n by
    intro j u hj hu
    by_cases e:j=i
    ·subst e;rw[hv]at hu;simp at hu;subst hu;exact hq
    exact HB.out j u (by omega) hu)
   clear HB hq hv sJ
   go_wp2_with fail
   go_roundw
   case rel=>exact⟨i+1,by go_num,by omega,by first|rfl|trivial,HN⟩
   case measure=>simp[intOf];omega
  have hlt':¬(i:Int)<(kept.length:Int):=by omega
  obtain rfl:i=kept.length:=by omega
  obtain⟨ao,cap,sJ⟩:=aF HH.out.1.row;rw[sJ]at x1
  have HP:=hid (FI (λv hv=>by
   obtain⟨j,hj⟩:=List.mem_iff_getElem?.1 hv
   exact HB.out j v (List.getElem?_eq_some_iff.1 hj).1 hj))
  clear HB sJ;go_wp2;go_ret;rw[HP.out];exact⟨rfl,HH.out.1,Kp.refl _ _⟩
end
end Go.Proofs.YtnlbchmfcebeeaaGreat
