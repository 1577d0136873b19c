import Derived.Test.YtnlbchmfcebeeaaGreatTZrv1
import Derived.Test.YtnlbchmfcebeeaaGreatTLgv1
set_option maxHeartbeats 12800000
set_option maxRecDepth 100000
namespace Go.Proofs.YtnlbchmfcebeeaaGreat
open Go.Proofs.Tryz Ch
open Go.RowKit
abbrev xu:Array Value:=#[.int .i64 0,.bool false,.bool false,.bool false,.bool false,.bool false,.bool false,.bool false,.bool false,.bool false,.bool false,.bool false,.bool false,.bool false,.bool false,.bool false,.bool false,.int .u8 0,.int .u8 0,.int .u8 0,.int .u8 0,.int .u8 0,.int .u8 0,.int .u8 0,.int .u8 0,.int .u8 0,.int .u8 0,.int .u8 0,.int .u8 0,.int .u8 0,.int .u8 0,.int .u8 0,.int .u8 0,.string ⟨#[]⟩,.int .i64 0,.int .i64 0,.int .i64 0,.int .i64 0]
abbrev xw:Array Value:=#[.int .i64 0,.string ⟨#[]⟩,.int .i64 0,.bool false,.int .i64 0,.int .i64 0,.bool false,.bool false,.bool false,.bool false,.bool false,.bool false,.bool false,.bool false,.bool false,.bool false,.bool false,.bool false,.bool false,.bool false,.bool false,.bool false,.int .u8 0,.int .u8 0,.int .u8 0,.int .u8 0,.int .u8 0,.int .u8 0,.int .u8 0,.int .u8 0,.int .u8 0,.int .u8 0,.int .u8 0,.int .u8 0,.int .u8 0,.int .u8 0,.int .u8 0,.int .u8 0,.string ⟨#[]⟩,.int .i64 0,.int .i64 0,.int .i64 0,.string ⟨#[]⟩,.int .i64 0,.int .i64 0]
abbrev aM:Array Value:=#[.int .i64 0,.int .i64 0,.int .i64 0,.int .i64 0,.string ⟨#[]⟩,.string ⟨#[]⟩,.string ⟨#[]⟩,.int .i64 0,.int .i64 0,.int .i64 0,.string ⟨#[]⟩]
abbrev eB:Array Value:=#[.int .i64 0,.int .i64 0,.slice none 0 0,.slice none 0 0,.slice none 0 0,.int .i64 0,.slice none 0 0,.int .i64 0,.string ⟨#[]⟩,.slice none 0 0,.int .i64 0,.int .i64 0]
theorem XV:∀(l:List Value) (k:Nat) (a:Array Value),k+l.length<=a.size->
 ((l.zipIdx k).foldl (λcs (p:Value×Nat)=>cs.setIfInBounds (0+p.2) p.1) a).toList=a.toList.take k++l++a.toList.drop (k+l.length):=by
 intro l
 induction l with
 |nil=>intro k a h;simp
 |cons x l ih=>?_
 intro k a h;simp only[List.length_cons]at h;simp only[List.zipIdx_cons,List.foldl_cons];rw[ih (k+1) _ (by simp;omega)]
 have hk:k<a.toList.length:=by simp;omega
 simp only[Nat.zero_add,Array.toList_setIfInBounds,List.length_cons];rw[List.take_set,List.drop_set_of_lt (by omega),show k+1+l.length=k+(l.length+1)by omega];rw[List.take_succ_eq_append_getElem hk,List.set_append_right _ _ (by simp;omega)];simp[Nat.min_eq_left (Nat.le_of_lt (by simpa using hk))]
section
variable {P:Program}
theorem XW{n:Nat}(base VA:Array Value)(hb:base.size=n)(hs:VA.size=n):Instr.fill (λi=>some (i*n,n)) base [(0,.agg VA)]=some VA:=by
 unfold Instr.fill;have e:(Value.agg VA).cells=VA:=rfl;simp only[e,hs,hb,Nat.zero_mul,Nat.zero_add,ne_eq,not_true_eq_false,decide_false,Nat.lt_irrefl,gt_iff_lt,Bool.or_self,Bool.false_eq_true,if_false];unfold Instr.fill;have h:=XV VA.toList 0 base (by simp[hs,hb]);simp only[List.take_zero,List.nil_append,Nat.zero_add]at h;rw[List.drop_eq_nil_of_le (by simp[hs,hb]),List.append_nil]at h
 congr 1
 apply Array.toList_inj.1;rw[<-h];rw[<-Array.foldl_toList];simp
theorem nW(w:World)(t elem:TypeId)(i:TypeInfo)(z:Value)(ht:P.underlying t=some (.slice elem))(hi:P.info? elem=some i)(hz:i.zero=some z)(h0:0<i.size)(h24:i.size<=1000)
 (VA:Array Value) (hs:VA.size=i.size):(Instr.buildSlice t 1 #[(0,.agg VA)]).run P w= .ok (.slice (some ⟨w.heap.size,0,none⟩) 1 1) (w.alloc (.cells VA elem)):=by
 have h1:¬(i.size=0):=by omega
 have h2:¬(16777216<i.size):=by omega
 have hf:=XW ((Array.range i.size).map (λx=>z.cells[x % z.cells.size]!)) VA (n:=i.size) (by simp) hs;unfold Instr.buildSlice;simp[run_underlying ht,sizeOf,typeInfo,hi,h1,h2,zeroValue,hz];rw[hf];simp[newRow]
theorem ez{o:Oper}{a:Act}{w:World}(t:TypeId)(x:Operand)(ho:o.op= .buildSlice t 1 #[(0,x)])(elem:TypeId)(i:TypeInfo)(z:Value)
 (ht:P.underlying t=some (.slice elem)) (hi:P.info? elem=some i) (hz:i.zero=some z) (h0:0<i.size) (h24:i.size<=1000) (VA:Array Value) (hx:a.eval x= .agg VA) (hs:VA.size=i.size):
 (execOp a.eval o).run P w= .ok (.value (.slice (some ⟨w.heap.size,0,none⟩) 1 1)) (w.alloc (.cells VA elem)):=by
 unfold execOp
 have e:(#[((0:Nat),x)].map λ(p:Nat×Operand)=>(p.1,a.eval p.2))= #[(0,.agg VA)]:=by simp[hx]
 simp only[ho]
 have e2:(Instr.buildSlice t 1 (#[((0:Nat),x)].map λ(p:Nat×Operand)=>(p.1,a.eval p.2))).run P w= .ok (.slice (some ⟨w.heap.size,0,none⟩) 1 1) (w.alloc (.cells VA elem)):=by rw[e];exact nW w t elem i z ht hi hz h0 h24 VA hs
 simp only[Sem.run_bind,e2,Result.andThen_ok,Sem.run_pure]
theorem iK{ops:Array Oper}{rest:List Oper}{o:Oper}{a:Act}{w:World}{Q:Exit->Act->World->Prop}(hgd:o.guard=none)(t:TypeId)(x:Operand)(ho:o.op= .buildSlice t 1 #[(0,x)])(elem:TypeId)(i:TypeInfo)(z:Value)
 (ht:P.underlying t=some (.slice elem)) (hi:P.info? elem=some i) (hz:i.zero=some z) (h0:0<i.size) (h24:i.size<=1000) (VA:Array Value) (hx:a.eval x= .agg VA) (hs:VA.size=i.size)
 (h:wpList P ops Q rest (a.put o.dst (.slice (some ⟨w.heap.size,0,none⟩) 1 1)) (w.alloc (.cells VA elem))):wpList P ops Q (o::rest) a w:=
 wpList_plain hgd λK hK=>by
  unfold Oper.wp execOp
  have e:(#[((0:Nat),x)].map λ(p:Nat×Operand)=>(p.1,a.eval p.2))= #[(0,.agg VA)]:=by simp[hx]
  simp only[ho]
  have e2:(Instr.buildSlice t 1 (#[((0:Nat),x)].map λ(p:Nat×Operand)=>(p.1,a.eval p.2))).run P w= .ok (.slice (some ⟨w.heap.size,0,none⟩) 1 1) (w.alloc (.cells VA elem)):=by rw[e];exact nW w t elem i z ht hi hz h0 h24 VA hs
  simp only[Sem.run_bind,e2,Result.andThen_ok,Sem.run_pure];exact hK _ _ h
end
namespace Ch
structure Vr where
 num:Nat
 now:Sd
 pins:Nat
structure Tk where
 kind:Int
 events:ByteArray
 at_:Int
 drawn:Bool
 ticket:Nat
 fired:Nat
 now:Sd
 out:ByteArray
 steps:Nat
 pinned:Int
structure Sv where
 made:Nat
 kept:List Vr
 joined:Nat
 tail:ByteArray
 tasks:List Tk
 bA:Nat
 turn:Nat
def tU(made:Nat)(v:Vr):Bool:=decide (0<v.pins)||decide (made<=v.num+4)
def kJ(made:Nat)(l:List Vr):List Vr:=l.filter (tU made)
end Ch
def sF(v:Vr):List Value:=.int .i64 v.num::(ax v.now++[.int .i64 v.pins])
def gh(l:List Vr):List Value:=l.flatMap sF
theorem rN{v:Vr}(h:v.now.Wf):(sF v).length=38:=by simp[sF,bE h]
theorem rP(l:List Vr)(v:Vr):gh (l++[v])=gh l++sF v:=by simp[gh]
theorem Pr{l:List Vr}(h:∀v∈l,v.now.Wf){k:Nat}{v:Vr}(hk:l[k]? =some v){j:Nat}(hj:j<38):(gh l)[k*38+j]? =(sF v)[j]?:=by
 induction l generalizing k with
 |nil=>simp at hk
 |cons x l ih=>?_
 have e:gh (x::l)=sF x++gh l:=by simp[gh]
 rw[e];have hx:=rN (h x (by simp))
 cases k with
 |zero=>
  simp at hk;subst hk;rw[List.getElem?_append_left (by omega)];simp
 |succ k=>?_
 rw[List.getElem?_append_right (by omega),hx,show(k+1)*38+j-38=k*38+j by omega];exact ih (λy hy=>h y (by simp[hy])) (by simpa using hk)
theorem qQ(s:Sd):∀u∈ax s,u.oneCell'=true:=by
 intro u hu;simp only[ax,cf,bf,List.mem_append,List.mem_map,List.mem_cons,List.not_mem_nil,or_false]at hu
 rcases hu with⟨b,_,rfl⟩|⟨c,_,rfl⟩|rfl|rfl|rfl|rfl<;>rfl
theorem QU(v:Vr):∀u∈sF v,u.oneCell'=true:=by
 intro u hu
 rcases List.mem_cons.1 hu with rfl|hu
 ·rfl
 rcases List.mem_append.1 hu with hu|hu
 ·exact qQ _ u hu
 simp at hu;subst hu;rfl
theorem XY:(prog.info? 261).map (λi=>(i.zero,i.size,i.bytes))=some (some (.agg xu),38,88):=by kernel_rfl
structure vW(w:World)(B sb so:Nat)(C:Array Value)(T:TypeId)(made:Nat)(kept:List Vr)(kv:Value):Prop where
 blk:w.heap[sb]? =some (.cells C T (0,0))
 c0:C[so]? =some (.int .i64 made)
 c1:C[so+1]? =some kv
 row:w.ownsRow B 261 38 kv kept.length (gh kept)
 wf:∀v∈kept,v.now.Wf
 ne:T≠261
section
variable {w w':World} {B sb so:Nat} {C:Array Value} {T:TypeId} {made:Nat} {kept:List Vr} {kv:Value}
theorem vW.x0(h:vW w B sb so C T made kept kv):w.cell? ⟨sb,so,none⟩=some (.int .i64 made):=by rw[World.cell?,h.blk];exact h.c0
theorem vW.x1(h:vW w B sb so C T made kept kv):w.cell? ⟨sb,so+1,none⟩=some kv:=by rw[World.cell?,h.blk];exact h.c1
theorem vW.free(h:vW w B sb so C T made kept kv)(i:Nat):w.frozen? ⟨sb,i,none⟩=false:=by simp[World.frozen?,h.blk]
theorem vW.XZ(h:vW w B sb so C T made kept kv):kv.ownBlock≠some sb:=own_ne h.row h.blk h.ne.symm
theorem vW.ai(h:vW w B sb so C T made kept kv)(k:Kp (λ_=>False) w w'):vW w' B sb so C T made kept kv:=
 ⟨k.at_ h.blk (λx=>x),h.c0,h.c1,k.owns h.row (λ_ _ x=>x),h.wf,h.ne⟩
theorem vW.cells(h:vW w B sb so C T made kept kv){g cap:Nat}(e:kv= .slice (some ⟨g,0,none⟩) kept.length cap){k:Nat}{v:Vr}(hk:kept[k]? =some v):∀j u,(sF v)[j]? =some u->w.cell? ⟨g,k*38+j,none⟩=some u:=by
 intro j u hj;have hv:=h.wf v (List.mem_of_getElem? hk);have hl:=(List.getElem?_eq_some_iff.1 hj).1;rw[rN hv]at hl;have hlt:=(List.getElem?_eq_some_iff.1 hk).1;have hr:=h.row;rw[e]at hr;rw[hr.cellAt _ (by omega),Pr h.wf hk hl];exact hj
theorem vW.rowAt(h:vW w B sb so C T made kept kv)(hl:0<kept.length):∃g cap,kv= .slice (some ⟨g,0,none⟩) kept.length cap:=by
 rcases h.row.2 with⟨_,e2⟩|⟨g,cap,_,e1,_⟩
 ·omega
 exact⟨g,cap,e1⟩
end
theorem qR(b j:Nat):(⟨b,0,none⟩:Addr).add j=⟨b,j,none⟩:=by
 unfold Addr.add;split<;>simp_all
theorem hY{w:World}{b:Nat}{L:List Value}{T:TypeId}(h:w.heap[b]? =some (.cells L.toArray T (0,0)))(j:Nat):w.cell? ⟨b,j,none⟩=L[j]?:=by
 rw[World.cell?,h];simp
theorem xy(v:Vr):(sF v)[0]? =some (.int .i64 v.num):=rfl
theorem CI{v:Vr}(h:v.now.Wf):(sF v)[37]? =some (.int .i64 v.pins):=by
 unfold sF;rw[List.getElem?_cons_succ,List.getElem?_append_right (by rw[bE h];exact Nat.le_refl _),bE h];rfl
theorem X1{w:World}{B B':Nat}(hb:B<=B'){e:TypeId}{size:Nat}{v:Value}{n:Nat}{xs:List Value}(h:w.ownsRow B' e size v n xs):w.ownsRow B e size v n xs:=by
 refine⟨h.1,?_⟩
 rcases h.2 with x|⟨g,cap,cur,e1,e2,r⟩
 ·exact .inl x
 exact .inr ⟨g,cap,cur,e1,by omega,r⟩
theorem X_:(prog.info? 261).map (·.size)=some 38:=by kernel_rfl
theorem agI:∃d,prog.underlying 261=some d/\ak d=true:=⟨_,underlying261,rfl⟩
def agJ(w w':World)(B sb so:Nat)(C:Array Value)(T:TypeId)(l:List Vr):Prop:=
 ∃kq,w'.heap[sb]? =some (.cells (C.setIfInBounds (so+1) kq) T (0,0))/\w'.ownsRow B 261 38 kq l.length (gh l)/\(∀k,kq.ownBlock=some k->w.heap.size<=k)/\Kp (λk=>k=sb) w w'
section
variable (w:World) {B sb so:Nat} {C:Array Value} {T:TypeId} {made:Nat} {kept:List Vr} {kv:Value}
theorem Ly(h:vW w B sb so C T made kept kv)(hB:B<=w.heap.size)(hk:kept.length<=100000)(hm:made<=1000000000000000)(hn:∀v∈kept,v.num<=1000000000000000/\v.pins<=1000000000000000):
 Calls prog 226 #[.pointer (some ⟨sb,so,none⟩)] w λx w'=>x= .returned (.tuple #[])/\agJ w w' B sb so C T (kJ made kept):=by
 obtain⟨i0,hi,hz0,hz1,hz2⟩:=info_parts XY;obtain⟨dv,hdv,zS⟩:=agI;have HH:=hid h;have HN:=hid hn;clear h hn
 go_enter func226,ntmps226
 go_wp2_with fail
 go_loopw [2,3] (λlv iv wr=>∃i:Nat,iv= .int .i64 i/\i<=kept.length/\wr.ownsRow w.heap.size 261 38 lv (kJ made (kept.take i)).length (gh (kJ made (kept.take i)))/\Kp (λ_=>False) w wr) (λ_ iv _=>kept.length-(intOf iv).toNat)
 case atStart=>exact⟨0,rfl,Nat.zero_le _,World.ownsRow_nil _ _ _ _,Kp.refl _ _⟩
 case round=>
  obtain⟨i,rfl,hil,ho,KW⟩:=hrel;have hr:=HH.out.ai KW;have x0:=hr.x0;have x1:=hr.x1;obtain⟨ao,cap,sJ⟩:=aF hr.row
  by_cases hlt:i<kept.length
  ·have hlt':(i:Int)<(kept.length:Int):=by omega
   obtain⟨g,cap2,Ps⟩:=hr.rowAt (by omega)
   obtain⟨v,hv⟩:∃v,kept[i]? =some v:=⟨_,List.getElem?_eq_getElem hlt⟩
   have hcs:=hr.cells Ps hv;have hvw:=HH.out.wf v (List.mem_of_getElem? hv);have hvl:=rN hvw;have Ya:=QU v;obtain⟨hn1,hn2⟩:=HN.out v (List.mem_of_getElem? hv)
   have htk:kept.take (i+1)=kept.take i++[v]:=by
    obtain⟨h1,e⟩:=List.getElem?_eq_some_iff.1 hv;rw[<-e,List.take_append_getElem h1]
   rw[Ps]at x1;have hnew:=heap_alloc_new wr (.cells xu 261);have h5:=setRow_heap (wr.alloc (.cells xu 261)) wr.heap.size xu (sF v).toArray 261 (0,0) hnew;have K5:Kp (λ_=>False) wr ((wr.alloc (.cells xu 261)).setRow wr.heap.size (sF v).toArray):=((Kp.refl _ _).alloc _).setRow (λx=>by omega) _
   have hI:(prog.info? 261).map (·.size)=some (sF v).length:=by rw[hvl];exact X_
   have UB:(sF v).toArray.size=38:=by simp[hvl]
   have hVi:(prog.info? 261).map (·.size)=some (sF v).toArray.size:=by rw[UB];exact X_
   have hVo:(sF v).toArray.all (λx=>x.oneCell')=true:=by
    apply Array.all_eq_true_iff_forall_mem.2;intro u hu;exact Ya u (by simpa using hu)
   go_upto_region 5 with(first|refine aY rfl 261 (.tmp 19) rfl g (i*38) rfl (sF v) dv hcs hdv zS hI ?_|refine wpList_store_row rfl 261 (.tmp 4) (.tmp 20) rfl wr.heap.size (sF v).toArray rfl rfl 261 xu hnew hVi (by rw[UB];rfl) hVo ?_)
   have hx5:=hr.ai K5;have sr:=K5.owns ho (λ_ _ x=>x);have K6:=KW.trans K5;have hvb:w.heap.size<=wr.heap.size:=KW.size;generalize (wr.alloc (.cells xu 261)).setRow wr.heap.size (sF v).toArray=w5 at*;generalize wr.heap.size=vb at*;have b0:=(hY h5 0).trans (xy v);have b37:=(hY h5 37).trans (CI hvw);have y0:=hx5.x0;generalize hVA:(sF v).toArray=VA at*;have HVA:=hid hVA;clear hVA;have HX:=hid (ae sr (ae K6 h5));have HZ:=hid (ae hi (ae hz0 (ae hz1 hz2)));have HV:=hid (ae UB (ae hVi (ae hVo (ae hvl Ya))));clear hi hz0 hz1 hz2 UB hVi hVo hvl Ya hI hvw
   have HL:∀(hq:tU made v=true),kJ made (kept.take (i+1))=kJ made (kept.take i)++[v]:=by
    intro hq;rw[htk];unfold kJ;rw[List.filter_append];simp[hq]
   have HL0:∀(hq:tU made v=false),kJ made (kept.take (i+1))=kJ made (kept.take i):=by
    intro hq;rw[htk];unfold kJ;rw[List.filter_append];simp[hq]
   have HLL:=hid (ae HL HL0);clear hnew K5 hcs ho sr K6 KW hr hx5 htk HL HL0 h5 x0 x1
   have hlen:(kJ made (kept.take i)).length<=100000:=by
    unfold kJ;exact Nat.le_trans (List.length_filter_le _ _) (by simp;omega)
   clear sJ Ps hil
   cases hq:tU made v with
   |true=>
    have HE:=hid (HLL.out.1 hq)
    have hcase:0<v.pins\/(¬ 0<v.pins/\made<=v.num+4):=by
     unfold tU at hq;simp at hq;omega
    clear HLL hq
    by_cases hp:0<v.pins
    ·have hp':(0:Int)<(v.pins:Int):=by omega
     simp only[Act.put]
     go_quiet (fail)
     rename_i nq;have KD:=(Kp.refl (λ_=>False) w5).drewN nq;have KA:=KD.alloc (.cells VA 261);have h5':=KD.at_ HX.out.2.2 (λx=>x);have DH:=KA.owns HX.out.1 (λ_ _ x=>x);have sK:=heap_alloc_new (w5.drewN nq) (.cells VA 261)
     have hc6:∀j u,(sF v)[j]? =some u->((w5.drewN nq).alloc (.cells VA 261)).cell? ((⟨(w5.drewN nq).heap.size,0,none⟩:Addr).add j)=some u:=by
      intro j u hj;have e:(⟨(w5.drewN nq).heap.size,0,none⟩:Addr).add j=⟨(w5.drewN nq).heap.size,j,none⟩:=qR _ _;rw[e,World.cell?,sK];show VA[j]? =some u;rw[<-HVA.out,List.getElem?_toArray];exact hj
     have K7:=HX.out.2.1.trans KA;have hs7:w.heap.size<=((w5.drewN nq).alloc (.cells VA 261)).heap.size:=K7.size;obtain⟨hi,hz0,hz1,hz2⟩:=HZ.out;obtain⟨UB,hVi,hVo,hvl,Ya⟩:=HV.out
     go_wp2_with (first|(at_builtin;refine wpList_append_own _ rfl (.tmp 34) (.tmp 36) 129 rfl w.heap.size 261 i0 (.agg xu) 38 88 underlying129 hi hz0 hz1 hz2 rfl (by decide) _ _ _ rfl DH ⟨(w5.drewN nq).heap.size,0,none⟩ 1 1 (sF v) rfl (by rw[hvl]) hc6 Ya ?c3 ?c4 ?c5 ?_)|refine iK rfl 129 (.tmp 35) rfl 261 i0 (.agg xu) underlying129 hi hz0 (by omega) (by omega) VA rfl (by rw[UB,hz1]) ?_|refine wpList_load_row rfl 261 (.tmp 4) rfl vb rfl 261 VA (0,0) dv h5' hdv (by cases dv<;>first|rfl|exact absurd zS (by simp[ak])) hVi ?_)
     case c3=>unfold maxLen;omega
     case c4=>omega
     case c5=>simpa using hs7
     intro v8 w8 o8 g8 _;have K8:Kp (λ_=>False) w w8:=K7.grown g8 (λk hk hl=>by have:=(DH.lt k hk).1;omega);have HF:=hid (ae o8 K8);clear o8 g8 K8 K7 hs7 hc6 sK DH KA KD h5' hi hz0 hz1 hz2 UB hVi hVo hvl Ya
     go_wp2_with fail
     go_roundw
     case rel=>
      refine⟨i+1,by go_num,by omega,?_,HF.out.2⟩;rw[HE.out,rP];simpa using HF.out.1
     case measure=>simp[intOf];omega
    have hge:made<=v.num+4:=by omega
    have hp':¬(0:Int)<(v.pins:Int):=by omega
    have hge':(made:Int)-4<=(v.num:Int):=by omega
    simp only[Act.put]
    go_quiet (fail)
    rename_i nq;have KD:=(Kp.refl (λ_=>False) w5).drewN nq;have KA:=KD.alloc (.cells VA 261);have h5':=KD.at_ HX.out.2.2 (λx=>x);have DH:=KA.owns HX.out.1 (λ_ _ x=>x);have sK:=heap_alloc_new (w5.drewN nq) (.cells VA 261)
    have hc6:∀j u,(sF v)[j]? =some u->((w5.drewN nq).alloc (.cells VA 261)).cell? ((⟨(w5.drewN nq).heap.size,0,none⟩:Addr).add j)=some u:=by
     intro j u hj;have e:(⟨(w5.drewN nq).heap.size,0,none⟩:Addr).add j=⟨(w5.drewN nq).heap.size,j,none⟩:=qR _ _;rw[e,World.cell?,sK];show VA[j]? =some u;rw[<-HVA.out,List.getElem?_toArray];exact hj
    have K7:=HX.out.2.1.trans KA;have hs7:w.heap.size<=((w5.drewN nq).alloc (.cells VA 261)).heap.size:=K7.size;obtain⟨hi,hz0,hz1,hz2⟩:=HZ.out;obtain⟨UB,hVi,hVo,hvl,Ya⟩:=HV.out
    go_wp2_with (first|(at_builtin;refine wpList_append_own _ rfl (.tmp 34) (.tmp 36) 129 rfl w.heap.size 261 i0 (.agg xu) 38 88 underlying129 hi hz0 hz1 hz2 rfl (by decide) _ _ _ rfl DH ⟨(w5.drewN nq).heap.size,0,none⟩ 1 1 (sF v) rfl (by rw[hvl]) hc6 Ya ?c3 ?c4 ?c5 ?_)|refine iK rfl 129 (.tmp 35) rfl 261 i0 (.agg xu) underlying129 hi hz0 (by omega) (by omega) VA rfl (by rw[UB,hz1]) ?_|refine wpList_load_row rfl 261 (.tmp 4) rfl vb rfl 261 VA (0,0) dv h5' hdv (by cases dv<;>first|rfl|exact absurd zS (by simp[ak])) hVi ?_)
    case c3=>unfold maxLen;omega
    case c4=>omega
    case c5=>simpa using hs7
    intro v8 w8 o8 g8 _;have K8:Kp (λ_=>False) w w8:=K7.grown g8 (λk hk hl=>by have:=(DH.lt k hk).1;omega);have HF:=hid (ae o8 K8);clear o8 g8 K8 K7 hs7 hc6 sK DH KA KD h5' hi hz0 hz1 hz2 UB hVi hVo hvl Ya
    go_wp2_with fail
    go_roundw
    case rel=>
     refine⟨i+1,by go_num,by omega,?_,HF.out.2⟩;rw[HE.out,rP];simpa using HF.out.1
    case measure=>simp[intOf];omega
   |false=>?_
   have HE:=hid (HLL.out.2 hq)
   have hcase:¬ 0<v.pins/\¬made<=v.num+4:=by
    unfold tU at hq;simp at hq;omega
   obtain⟨hp,hge⟩:=hcase
   have hp':¬(0:Int)<(v.pins:Int):=by omega
   have hge':¬(made:Int)-4<=(v.num:Int):=by omega
   clear HLL hq;simp only[Act.put]
   go_quiet (fail)
   rename_i nq;have HD:=hid (ae ((Kp.refl (λ_=>False) w5).drewN nq |>.owns HX.out.1 (λ_ _ x=>x)) (HX.out.2.1.drewN nq))
   go_wp2_with fail
   go_roundw
   case rel=>exact⟨i+1,by go_num,by omega,by rw[HE.out];exact HD.out.1,HD.out.2⟩
   case measure=>simp[intOf];omega
  have hlt':¬(i:Int)<(kept.length:Int):=by omega
  obtain rfl:i=kept.length:=by omega
  rw[List.take_length]at ho;obtain⟨Pt,m2,xk,rfl⟩:=ew ho;have hf:=hr.free (so+1);have hC1:=(List.getElem?_eq_some_iff.1 (show C.toList[so+1]? =some kv by simpa using HH.out.c1)).1;have KS:Kp (λk=>k=sb) wr (wr.setCell ⟨sb,so+1,none⟩ (.slice Pt m2 xk)):=(Kp.refl (λk=>k=sb) wr).setCell (p:=⟨sb,so+1,none⟩) (λ_=>rfl) _;have hb9:(wr.setCell ⟨sb,so+1,none⟩ (.slice Pt m2 xk)).heap[sb]? =some (.cells (C.setIfInBounds (so+1) (.slice Pt m2 xk)) T (0,0)):=ah _ hr.blk;have Yb:=own_ne ho hr.blk hr.ne.symm;have Y3:=KS.owns ho (λk e x=>Yb (by rw[<-x];exact e))
  have agL:=λk e=>(ho.lt k e).1
  have K9:Kp (λk=>k=sb) w (wr.setCell ⟨sb,so+1,none⟩ (.slice Pt m2 xk)):=(KW.mono (λ_ _ x=>x.elim)).trans' KS (λi _ x=>x);have HF:=hid (ae hb9 (ae (X1 hB Y3) (ae agL K9)));clear hb9 Y3 agL K9 KS Yb ho hr KW
  go_wp2_with fail
  go_end0
  exact⟨rfl,_,HF.out.1,HF.out.2.1,HF.out.2.2.1,HF.out.2.2.2⟩
end
theorem Ig(m:Int)(a0 a1 a2 a3 a4 a5 a6 a7 a8 a9 zV C6 a12 C7 C8 C_:Bool)(p0 p1 p2 p3 p4 p5 p6 p7 p8 p9 zW zX zY zZ z9 z_:Int)(tm:ByteArray)(x y z:Int):
 prog.built 261 [(0,.int .i64 m),(1,.agg #[.bool a0,.bool a1,.bool a2,.bool a3,.bool a4,.bool a5,.bool a6,.bool a7,.bool a8,.bool a9,.bool zV,.bool C6,.bool a12,.bool C7,.bool C8,.bool C_,.int .u8 p0,.int .u8 p1,.int .u8 p2,.int .u8 p3,.int .u8 p4,.int .u8 p5,.int .u8 p6,.int .u8 p7,.int .u8 p8,.int .u8 p9,.int .u8 zW,.int .u8 zX,.int .u8 zY,.int .u8 zZ,.int .u8 z9,.int .u8 z_,.string tm,.int .i64 x,.int .i64 y,.int .i64 z])]=some #[.int .i64 m,.bool a0,.bool a1,.bool a2,.bool a3,.bool a4,.bool a5,.bool a6,.bool a7,.bool a8,.bool a9,.bool zV,.bool C6,.bool a12,.bool C7,.bool C8,.bool C_,.int .u8 p0,.int .u8 p1,.int .u8 p2,.int .u8 p3,.int .u8 p4,.int .u8 p5,.int .u8 p6,.int .u8 p7,.int .u8 p8,.int .u8 p9,.int .u8 zW,.int .u8 zX,.int .u8 zY,.int .u8 zZ,.int .u8 z9,.int .u8 z_,.string tm,.int .i64 x,.int .i64 y,.int .i64 z,.int .i64 0]:=by kernel_rfl
theorem Yc(m:Nat)(s:Sd)(hw:s.Wf):prog.built 261 [(0,.int .i64 m),(1,.agg (ax s).toArray)]=some (sF ⟨m,s,0⟩).toArray:=by
 obtain⟨act,past,tm,x,y,z⟩:=s;obtain⟨h1,h2⟩:=hw;simp only at h1 h2;obtain⟨a0,a1,a2,a3,a4,a5,a6,a7,a8,a9,zV,C6,a12,C7,C8,C_,rfl⟩:=ru act h1;obtain⟨p0,p1,p2,p3,p4,p5,p6,p7,p8,p9,zW,zX,zY,zZ,z9,z_,rfl⟩:=ru past h2;exact Ig m a0 a1 a2 a3 a4 a5 a6 a7 a8 a9 zV C6 a12 C7 C8 C_ p0 p1 p2 p3 p4 p5 p6 p7 p8 p9 zW zX zY zZ z9 z_ tm x y z
theorem Lz{v:Vr}(h:v.now.Wf):(sF v).toArray.size=38:=by simp[rN h]
section
variable (w:World) {B sb so:Nat} {C:Array Value} {T:TypeId} {made:Nat} {kept:List Vr} {kv:Value}
theorem lD(h:vW w B sb so C T made kept kv)(hmd:made<=1000000000000000):
 Calls prog 191 #[.pointer (some ⟨sb,so,none⟩)] w λx w'=>x= .returned (.int .i64 ((made:Int)-1))/\w'=w:=by
 have x0:=h.x0;clear h
 go_enter func191,ntmps191
 go_wp2;go_ret;exact⟨rfl,rfl⟩
def akz(w w':World)(B sb so:Nat)(C:Array Value)(T:TypeId)(made:Nat)(kv:Value)(l:List Vr):Prop:=
 ∃kq,w'.heap[sb]? =some (.cells ((C.setIfInBounds so (.int .i64 ((made+1:Nat):Int))).setIfInBounds (so+1) kq) T (0,0))/\w'.ownsRow B 261 38 kq l.length (gh l)/\(∀k,kq.ownBlock=some k->w.heap.size<=k)/\Kp (λk=>k=sb\/kv.ownBlock=some k) w w'
theorem UC(h:vW w B sb so C T made kept kv)(hB:B<=w.heap.size)(hk:kept.length<=1000)(hmd:made<=100000000000000)(hn:∀v∈kept,v.num<=1000000000000000/\v.pins<=1000000000000000)(hTs:T≠95)(s:Sd)(hs:s.Wf):
 Calls prog 184 #[.pointer (some ⟨sb,so,none⟩),.agg (ax s).toArray] w λx w'=>x= .returned (.tuple #[])/\akz w w' B sb so C T made kv (kJ (made+1) (kept++[⟨made,s,0⟩])):=by
 obtain⟨i0,hi,hz0,hz1,hz2⟩:=info_parts XY;obtain⟨ds,hds,eY⟩:=eT;have hnb:=heap_alloc_new w (.cells (ax s).toArray 95);have K1:Kp (λ_=>False) w (w.alloc (.cells (ax s).toArray 95)):=(Kp.refl _ _).alloc _;have h1:=h.ai K1
 have hsI:(prog.info? 95).map (·.size)=some (ax s).toArray.size:=by rw[show(ax s).toArray.size=36 by simp[bE hs]];exact bV
 have hbt:=Yc made s hs;have hvw:(⟨made,s,0⟩:Vr).now.Wf:=hs;have UB:=Lz hvw;have hvl:=rN hvw;have Ya:=QU ⟨made,s,0⟩;have HH:=hid (ae h hn);clear h hn;obtain⟨ao,mm,cap,rfl⟩:=ew h1.row;generalize ye:(ax s).toArray=SA at*;generalize hVA:(sF ⟨made,s,0⟩).toArray=VA at*;have HVA:=hid hVA;clear hVA ye
 go_enter func184,ntmps184
 go_upto_region 1 with(fail)
 have hsz1:w.heap.size<=(w.alloc (.cells SA 95)).heap.size:=K1.size;have HK1:=hid K1;generalize w.alloc (.cells SA 95)=w1 at*;have x0:w1.drew.cell? ⟨sb,so,none⟩=some (.int .i64 made):=h1.x0;have x1:w1.drew.cell? ⟨sb,so+1,none⟩=some (.slice ao mm cap):=h1.x1
 have hS0:w1.drew.cell? ⟨sb,so,none⟩=some (.int .i64 made)/\w1.drew.heap[w.heap.size]? =some (.cells SA 95 (0,0)):=⟨x0,hnb⟩
 refine az (λw'=>w'.cell? ⟨sb,so,none⟩=some (.int .i64 made)/\w'.heap[w.heap.size]? =some (.cells SA 95 (0,0))) (by kernel_rfl) ?_;refine aU 0 4 (.pointer (some ⟨sb,so,none⟩)) hS0 ?_;refine aU 1 5 (.pointer (some ⟨sb,so,none⟩)) hS0 ?_;refine aU 2 6 (.pointer (some ⟨sb,so,none⟩)) hS0 ?_;refine aU 3 7 (.pointer (some ⟨sb,so+1,none⟩)) hS0 ?_;refine aU 5 9 (.pointer (some ⟨sb,so,none⟩)) hS0 ?_;refine aU 6 10 (.pointer (some ⟨sb,so,none⟩)) hS0 ?_;refine aU 7 11 (.pointer (some ⟨sb,so,none⟩)) hS0 ?_;refine dM 8 12 (.int .i64 made) rfl (λw' hS=>by simp[execOp,Act.eval,go_sem,hS.1]) hS0 ?_;refine dM 9 13 (.agg SA) rfl (λw' hS=>bu 95 (.tmp 3) rfl w.heap.size rfl 95 SA (0,0) ds hS.2 hds eY hsI) hS0 ?_;refine dM 10 14 (.agg VA) rfl (λw' _=>fY 261 #[(0,.tmp 12),(1,.tmp 13)] rfl VA [(0,.int .i64 made),(1,.agg SA)] rfl hbt) hS0 ?_;have KA:Kp (λ_=>False) w1.drew (w1.drew.alloc (.cells VA 261)):=(Kp.refl _ _).alloc _;have hb2:(w1.drew.alloc (.cells VA 261)).heap[sb]? =some (.cells C T (0,0)):=KA.at_ h1.blk (λx=>x);have hn2:(w1.drew.alloc (.cells VA 261)).heap[w.heap.size]? =some (.cells SA 95 (0,0)):=KA.at_ hnb (λx=>x)
 have y0:(w1.drew.alloc (.cells VA 261)).cell? ⟨sb,so,none⟩=some (.int .i64 made):=by rw[World.cell?,hb2];exact h1.c0
 have y1:(w1.drew.alloc (.cells VA 261)).cell? ⟨sb,so+1,none⟩=some (.slice ao mm cap):=by rw[World.cell?,hb2];exact h1.c1
 have y1':(w1.alloc (.cells VA 261)).drew.cell? ⟨sb,so+1,none⟩=some (.slice ao mm cap):=y1
 refine BC 4 11 8 15 (.slice ao mm cap) (.slice (some ⟨w1.drew.heap.size,0,none⟩) 1 1) (w1.drew.alloc (.cells VA 261)) (by decide) (by kernel_rfl) (by kernel_rfl) (by kernel_rfl) rfl rfl rfl rfl rfl rfl (by simp[execOp,Act.eval,go_sem,x1])
  (ez 129 (.tmp 14) rfl 261 i0 (.agg xu) underlying129 hi hz0 (by omega) (by omega) VA rfl (by rw[UB,hz1]))
  (ez 129 (.tmp 14) rfl 261 i0 (.agg xu) underlying129 hi hz0 (by omega) (by omega) VA rfl (by rw[UB,hz1]))
  (by simp[execOp,Act.eval,go_sem,y1']) hS0 ⟨y0,hn2⟩ ?_
 simp only[Act.put,pA,pB,pC];have DH:(w1.drew.alloc (.cells VA 261)).ownsRow B 261 38 (.slice ao mm cap) kept.length (gh kept):=KA.owns (show w1.drew.ownsRow B 261 38 (.slice ao mm cap) kept.length (gh kept)from h1.row) (λ_ _ x=>x);have sK:=heap_alloc_new w1.drew (.cells VA 261)
 have hc6:∀j u,(sF ⟨made,s,0⟩)[j]? =some u->(w1.drew.alloc (.cells VA 261)).cell? ((⟨w1.drew.heap.size,0,none⟩:Addr).add j)=some u:=by
  intro j u hj;rw[qR,World.cell?,sK];show VA[j]? =some u;rw[<-HVA.out,List.getElem?_toArray];exact hj
 have hs6:B<=(w1.drew.alloc (.cells VA 261)).heap.size:=by have:=KA.size;have e:w1.drew.heap.size=w1.heap.size:=rfl;omega
 refine jD 12 ?_;refine wp_append_own _ (.tmp 8) (.tmp 15) 129 rfl B 261 i0 (.agg xu) 38 88 underlying129 hi hz0 hz1 hz2 rfl (by decide) _ _ _ rfl DH ⟨w1.drew.heap.size,0,none⟩ 1 1 (sF ⟨made,s,0⟩) rfl (by rw[hvl]) hc6 Ya ?c3 ?c4 ?c5 ?_
 case c3=>unfold maxLen;omega
 case c4=>omega
 case c5=>exact hs6
 intro v8 w8 o8 g8 _;have hrn:=own_ne DH hb2 h1.ne.symm;have akA:=own_ne DH hn2 (by decide);have KG:Kp (λk=>(Value.slice ao mm cap).ownBlock=some k) (w1.drew.alloc (.cells VA 261)) w8:=(Kp.refl _ _).grown g8 (λk hk _=>hk);have zP:w8.heap[sb]? =some (.cells C T (0,0)):=KG.at_ hb2 hrn
 have UD:w8.cell? ⟨sb,so,none⟩=some (.int .i64 made)/\w8.heap[w.heap.size]? =some (.cells SA 95 (0,0)):=⟨by rw[World.cell?,zP];exact h1.c0,KG.at_ hn2 akA⟩
 refine⟨UD,?_⟩;refine eC 13 17 (.pointer (some ⟨sb,so,none⟩)) rfl (λw' _=>by simp[execOp,Act.eval,go_sem,Act.put]) UD ?_;refine eC 14 18 (.pointer (some ⟨sb,so+1,none⟩)) rfl (λw' _=>by simp[execOp,Act.eval,go_sem,Act.put]) UD ?_;obtain⟨Pt,m2,cap2,rfl⟩:=ew o8
 have hx8:w8.cell? ⟨sb,so+1,none⟩=some (.slice ao mm cap):=by rw[World.cell?,zP];exact h1.c1
 have QV:w8.frozen? ⟨sb,so+1,none⟩=false:=by simp[World.frozen?,zP]
 have akB:sb≠w.heap.size:=by intro e;rw[e,UD.2]at zP;simp only[Option.some.injEq,Obj.cells.injEq]at zP;exact hTs zP.2.1.symm
 have KS:Kp (λk=>k=sb) w8 (w8.setCell ⟨sb,so+1,none⟩ (.slice Pt m2 cap2)):=(Kp.refl (λk=>k=sb) w8).setCell (p:=⟨sb,so+1,none⟩) (λ_=>rfl) _;have hb9:(w8.setCell ⟨sb,so+1,none⟩ (.slice Pt m2 cap2)).heap[sb]? =some (.cells (C.setIfInBounds (so+1) (.slice Pt m2 cap2)) T (0,0)):=ah _ zP
 have hso:so+1<C.size:=by
  have:=h1.c1;exact(Array.getElem?_eq_some_iff.1 this).1
 have c09:(C.setIfInBounds (so+1) (.slice Pt m2 cap2))[so]? =some (.int .i64 made):=by rw[Array.getElem?_setIfInBounds_ne (by omega)];exact h1.c0
 have uY:(w8.setCell ⟨sb,so+1,none⟩ (.slice Pt m2 cap2)).cell? ⟨sb,so,none⟩=some (.int .i64 made)/\(w8.setCell ⟨sb,so+1,none⟩ (.slice Pt m2 cap2)).heap[w.heap.size]? =some (.cells SA 95 (0,0)):=⟨by rw[World.cell?,hb9];exact c09,KS.at_ UD.2 akB.symm⟩
 refine jD 15 ?_;unfold Oper.wp;simp only[execOp,Act.eval,Act.put];simp[go_sem,hx8,QV];refine⟨⟨UD.1,uY.2⟩,?_⟩;refine wpAnyH_done (by kernel_rfl) (NoPanic.normal ?_) _;have K8:Kp (λk=>k=sb\/(Value.slice ao mm cap).ownBlock=some k) w w8:=(((HK1.out.drew).trans KA).mono (λ_ _ x=>x.elim)).trans' KG (λi _ x=>.inr x);have K9:Kp (λk=>k=sb\/(Value.slice ao mm cap).ownBlock=some k) w (w8.setCell ⟨sb,so+1,none⟩ (.slice Pt m2 cap2)):=K8.trans' KS (λi _ x=>.inl x);have Yb:=own_ne o8 zP h1.ne.symm;have Y3:=KS.owns o8 (λk e x=>Yb (by rw[<-x];exact e));generalize hC9:C.setIfInBounds (so+1) (.slice Pt m2 cap2)=C9 at*;generalize w8.setCell ⟨sb,so+1,none⟩ (.slice Pt m2 cap2)=w9 at*;have z0:=uY.1
 have zf:w9.frozen? ⟨sb,so,none⟩=false:=by simp[World.frozen?,hb9]
 have KT:Kp (λk=>k=sb) w9 (w9.setCell ⟨sb,so,none⟩ (.int .i64 ((made:Int)+1))):=(Kp.refl (λk=>k=sb) w9).setCell (p:=⟨sb,so,none⟩) (λ_=>rfl) _;have agM:(w9.setCell ⟨sb,so,none⟩ (.int .i64 ((made:Int)+1))).heap[sb]? =some (.cells (C9.setIfInBounds so (.int .i64 ((made:Int)+1))) T (0,0)):=ah _ hb9;have abY:=own_ne Y3 hb9 h1.ne.symm;have agN:=KT.owns Y3 (λk e x=>abY (by rw[<-x];exact e));have tF:Kp (λk=>k=sb\/(Value.slice ao mm cap).ownBlock=some k) w (w9.setCell ⟨sb,so,none⟩ (.int .i64 ((made:Int)+1))):=K9.trans' KT (λi _ x=>.inl x)
 have e10:((made+1:Nat):Int)=(made:Int)+1:=by omega
 have akD:C9.size=C.size:=by rw[<-hC9];simp
 have h10:vW (w9.setCell ⟨sb,so,none⟩ (.int .i64 ((made:Int)+1))) B sb so (C9.setIfInBounds so (.int .i64 ((made:Int)+1))) T (made+1) (kept++[⟨made,s,0⟩]) (.slice Pt m2 cap2):=by
  refine⟨agM,?_,?_,?_,?_,h1.ne⟩
  ·rw[Array.getElem?_setIfInBounds_self_of_lt (by omega),e10]
  ·rw[Array.getElem?_setIfInBounds_ne (by omega),<-hC9,Array.getElem?_setIfInBounds_self_of_lt hso]
  ·rw[rP];simpa using agN
  intro v hv
  rcases List.mem_append.1 hv with hv|hv
  ·exact h1.wf v hv
  simp at hv;subst hv;exact hs
 have akE:B<=(w9.setCell ⟨sb,so,none⟩ (.int .i64 ((made:Int)+1))).heap.size:=by have:=tF.size;omega
 have ET:=hid (Ly _ h10 akE (by simp;omega) (by omega) (by
  intro v hv
  rcases List.mem_append.1 hv with hv|hv
  ·exact HH.out.2 v hv
  simp at hv;subst hv;simp;omega))
 have HK:=hid (ae tF (ae hC9 akD));clear K8 K9 Yb Y3 KS KT agM abY agN tF h10 uY UD KG o8 g8 hc6 sK DH hb2 hn2 y0 y1 y1' hx8 QV x0 x1 hS0 KA h1 hb9 c09
 go_wp2_with fail
 refine hm ET ?_;rintro x JJ ⟨rfl,kq,q1,q2,q3,q4⟩;have HF:=hid (ae q1 (ae q2 (ae q3 q4)));clear ET q1 q2 q3 q4
 go_wp2_with fail
 go_end0
 obtain⟨q1,q2,q3,q4⟩:=HF.out;refine⟨rfl,kq,?_,q2,λk e=>Nat.le_trans (by have:=HK.out.1.size;omega) (q3 k e),HK.out.1.trans' q4 (λi _ x=>.inl x)⟩;rw[q1,<-HK.out.2.1,e10]
 congr 2
 apply Array.ext_getElem?;intro j;simp only[Array.getElem?_setIfInBounds,Array.size_setIfInBounds]
 by_cases e1:so+1=j
 ·simp[e1]
 by_cases e2:so=j
 ·simp[e2]
 simp[e1,e2]
end
end Go.Proofs.YtnlbchmfcebeeaaGreat
