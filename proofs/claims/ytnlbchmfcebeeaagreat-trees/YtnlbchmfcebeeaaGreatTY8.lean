import Derived.Test.YtnlbchmfcebeeaaGreatTY1
set_option maxHeartbeats 12800000
set_option maxRecDepth 100000
namespace Go.Proofs.YtnlbchmfcebeeaaGreat
open Go.Proofs.Tryz Ch
open Go.RowKit
def IE(ss:List St):List Value:=ss.flatMap λs=>(ndA s).toList
theorem Lv{ss:List St}{k:Nat}{s:St}(h:ss[k]? =some s):IE (ss.take (k+1))=IE (ss.take k)++[.string (strOfNums [s.name]),.int .i64 s.kind,.int .i64 s.parent]:=by
 unfold IE;rw[List.take_add_one,h,List.flatMap_append];rfl
def TrQ(w w':World)(t:ByteArray)(u:Value):Prop:=((Ch.read t).1≠0->u= .slice none 0 0)/\((Ch.read t).1=0->w'.ownsRow w.heap.size 111 3 u (Ch.read t).2.2.ag.length (IE (Ch.read t).2.2.ag))/\Kp (λ_=>False) w w'
section
variable (w:World)
theorem Uw(t:ByteArray):
 Calls prog 94 #[.string t] w λx w'=>∃u,x= .returned (.tuple #[u,.int .i64 (Ch.read t).1])/\TrQ w w' t u:=by
 obtain⟨i0,hi,hz0,hz1,hz2⟩:=info_parts Br;have E0:=hid (nh w t)
 go_enter func94,ntmps94
 go_wp2_with fail
 refine hm E0 ?_;rintro x w1 ⟨p,rfl,hq1,hq2,K1⟩
 cases q1:(Ch.read t).1 !=0 with
 |true=>
  have hne:(Ch.read t).1≠0:=by simpa using q1
  have HQ:=hid (show TrQ w w1 t (.slice none 0 0)from⟨λ_=>rfl,λh=>absurd h hne,K1⟩);clear hq1 hq2 E0 K1 hne;generalize hre:(Ch.read t).1=re;rw[hre]at q1;have Vm:=hid hre;clear hre;generalize (Ch.read t).2.1=rp;go_wp2;go_ret2;exact⟨_,by rw[Vm.out];rfl,HQ.out⟩
 |false=>?_
 have h0:(Ch.read t).1=0:=by simpa using q1
 obtain⟨cb,l,v,rfl,hF,hN,hbd,hT⟩:=hq2 h0;have hR:=Ao h0 hN hT;have hle:=hR.le;have hss:Ch.ag l=(Ch.read t).2.2.ag:=hR.ag;obtain⟨ao,cap,rfl⟩:=hF.2.1.len;have HF:=hid (ae hF (ae hss K1));have H0:=hid h0;have hsz1:=K1.size;clear hq1 hq2 E0 hN hbd hT hR hF hss K1 h0;generalize hre:(Ch.read t).1=re;rw[hre]at q1;clear hre;generalize (Ch.read t).2.1=rp
 go_wp2_with fail
 go_loopw [7,8] (λfv kv wr=>∃k:Nat,kv= .int .i64 k/\k<=l.length/\Hid (wr.ownsRow w1.heap.size 111 3 fv k (IE ((Ch.ag l).take k)))/\Kp (λ_=>False) w1 wr) (λ_ kv _=>l.length-(intOf kv).toNat)
 case atStart=>exact⟨0,rfl,Nat.zero_le _,hid (World.ownsRow_nil _ _ _ _),Kp.refl _ _⟩
 case round=>
  obtain⟨k,rfl,hk,HO,KW⟩:=hrel;have zd:=(HF.out.1.ai KW).cell
  by_cases hlt:k<l.length
  ·have hlt':(k:Int)<(l.length:Int):=by omega
   obtain⟨x,hx⟩:∃x,l[k]? =some x:=⟨_,List.getElem?_eq_getElem hlt⟩
   have zc:=HF.out.1.cell;obtain⟨g1,Hm,hv,_,hcell,_⟩:=HF.out.1.2.1.form hx;simp only[Value.slice.injEq]at hv;obtain⟨rfl,-,rfl⟩:=hv;have v0:w1.cell? ⟨g1,k*7,none⟩=some (.int .u8 x.n.name):=hcell 0 (by omega);have v1:w1.cell? ⟨g1,k*7+1,none⟩=some (.int .i64 x.n.kind):=hcell 1 (by omega);have v2:w1.cell? ⟨g1,k*7+2,none⟩=some (.int .i64 x.n.parent):=hcell 2 (by omega);have hsn:=Lv (ss:=Ch.ag l) (k:=k) (s:=x.n.st) (by unfold Ch.ag Ch.mk;rw[List.getElem?_map,List.getElem?_map,hx];rfl)
   have hcv:=run_convert_bytes_arg (P:=prog) ((wr.alloc (.cells #[.int .u8 x.n.name] 5)).drew) 47 5 underlying47 underlying5 wr.heap.size 0 1 1 [x.n.name] rfl (by
    intro i hi
    match i,hi with
    |0,_=>simp) 9 underlying9
   replace hcv:Sem.run prog (convert 47 9 (.slice (some ⟨wr.heap.size,0,none⟩) 1 1)) (wr.drew.alloc (.cells #[.int .u8 x.n.name] 5))= .ok (.string (strOfNums [x.n.name])) (wr.drew.alloc (.cells #[.int .u8 x.n.name] 5)):=hcv;have hS0:Kp (λ_=>False) w1 wr.drew:=KW.drew;have hS1:Kp (λ_=>False) w1 (wr.drew.alloc (.cells #[.int .u8 x.n.name] 5)):=hS0.alloc _;have hS2:Kp (λ_=>False) w1 ((wr.drew.alloc (.cells #[.int .u8 x.n.name] 5)).alloc (.cells #[.string (strOfNums [x.n.name]),.int .i64 x.n.kind,.int .i64 x.n.parent] 111)):=hS1.alloc _;obtain⟨g9,c9,w9,IB,o9,Xu,_⟩:=dC (P:=prog) ((wr.drew.alloc (.cells #[.int .u8 x.n.name] 5)).alloc (.cells #[.string (strOfNums [x.n.name]),.int .i64 x.n.kind,.int .i64 x.n.parent] 111)) w1.heap.size 107 107 111 i0 (.agg #[.string ⟨#[]⟩,.int .i64 0,.int .i64 0]) 3 32 underlying107 hi hz0 hz1 hz2 rfl (by decide) u7 k (IE ((Ch.ag l).take k)) (by exact(HO.out.alloc _).alloc _) ⟨(wr.drew.alloc (.cells #[.int .u8 x.n.name] 5)).heap.size,0,none⟩ 1 1 [.string (strOfNums [x.n.name]),.int .i64 x.n.kind,.int .i64 x.n.parent] rfl (by exact Aw _ _ _ _ _) (by intro u hu;simp at hu;rcases hu with rfl|rfl|rfl<;>rfl) (by decide) (by unfold maxLen;omega) (by omega) hS2.size;rw[show(wr.drew.alloc (.cells #[.int .u8 x.n.name] 5)).heap.size=wr.heap.size+1 by simp]at IB;have uY:Kp (λ_=>False) w1 w9:=hS2.grown (by exact Xu) (λj hj hlt=>by have:=(HO.out.lt j hj).1;omega);have HZ:=hid (show w9.ownsRow w1.heap.size 111 3 (.slice (some ⟨g9,0,none⟩) (k+1) c9) (k+1) (IE ((Ch.ag l).take (k+1)))by rw[hsn];exact o9);clear hsn o9 Xu HO KW hcell hx
   go_upto_region 8 with(fail)
   refine az (λw'=>Kp (λ_=>False) w1 w') (by kernel_rfl) ?_;refine aU 0 27 (u7) hS0 ?_;refine aU 1 28 (.pointer (some ⟨cb,0,none⟩)) hS0 ?_;refine aU 2 29 (.pointer (some ⟨cb,0,none⟩)) hS0 ?_;refine aU 3 30 (.pointer (some ⟨cb,0,none⟩)) hS0 ?_;refine dM 4 31 (.slice (some ⟨g1,0,none⟩) l.length cap) rfl (λw' hS=>by have:=hS.bj zc;simp[execOp,Act.eval,go_sem,this]) hS0 ?_;refine aU 5 32 (.int .i64 (k:Int)) hS0 ?_;refine dM 6 33 (.pointer (some ⟨g1,k*7,none⟩)) rfl (λw' _=>by simp[execOp,Act.eval,go_sem,hlt']) hS0 ?_;refine aU 7 34 (.pointer (some ⟨g1,k*7,none⟩)) hS0 ?_;refine dM 8 35 (.int .u8 x.n.name) rfl (λw' hS=>by have:=hS.bj v0;simp[execOp,Act.eval,go_sem,this]) hS0 ?_;refine aU 11 38 (.pointer (some ⟨cb,0,none⟩)) hS0 ?_;refine aU 12 39 (.pointer (some ⟨cb,0,none⟩)) hS0 ?_;refine aU 13 40 (.pointer (some ⟨cb,0,none⟩)) hS0 ?_;refine dM 14 41 (.slice (some ⟨g1,0,none⟩) l.length cap) rfl (λw' hS=>by have:=hS.bj zc;simp[execOp,Act.eval,go_sem,this]) hS0 ?_;refine aU 15 42 (.int .i64 (k:Int)) hS0 ?_
   refine dM 16 43 (.pointer (some ⟨g1,k*7,none⟩)) rfl (λw' _=>by simp[execOp,Act.eval,go_sem,hlt']) hS0 ?_;refine aU 17 44 (.pointer (some ⟨g1,k*7+1,none⟩)) hS0 ?_;refine dM 18 45 (.int .i64 x.n.kind) rfl (λw' hS=>by have:=hS.bj v1;simp[execOp,Act.eval,go_sem,this]) hS0 ?_;refine aU 19 46 (.pointer (some ⟨cb,0,none⟩)) hS0 ?_;refine aU 20 47 (.pointer (some ⟨cb,0,none⟩)) hS0 ?_;refine aU 21 48 (.pointer (some ⟨cb,0,none⟩)) hS0 ?_;refine dM 22 49 (.slice (some ⟨g1,0,none⟩) l.length cap) rfl (λw' hS=>by have:=hS.bj zc;simp[execOp,Act.eval,go_sem,this]) hS0 ?_;refine aU 23 50 (.int .i64 (k:Int)) hS0 ?_;refine dM 24 51 (.pointer (some ⟨g1,k*7,none⟩)) rfl (λw' _=>by simp[execOp,Act.eval,go_sem,hlt']) hS0 ?_;refine aU 25 52 (.pointer (some ⟨g1,k*7+2,none⟩)) hS0 ?_;refine dM 26 53 (.int .i64 x.n.parent) rfl (λw' hS=>by have:=hS.bj v2;simp[execOp,Act.eval,go_sem,this]) hS0 ?_;refine jD 9 ?_;refine BB (some 36) rfl (.slice (some ⟨wr.heap.size,0,none⟩) 1 1) (wr.drew.alloc (.cells #[.int .u8 x.n.name] 5)) (by simp[execOp,Act.eval,go_sem]) ?_;simp only[Act.put,pA,pB,pC];refine⟨hS1,?_⟩;refine jD 10 ?_;refine BB (some 37) rfl (.string (strOfNums [x.n.name])) (wr.drew.alloc (.cells #[.int .u8 x.n.name] 5)) (by simp[execOp,Act.eval,hcv]) ?_;simp only[Act.put,pA,pB,pC];refine⟨hS1,?_⟩
   refine dM 27 54 (.agg #[.string (strOfNums [x.n.name]),.int .i64 x.n.kind,.int .i64 x.n.parent]) rfl (λw' _=>fY 111 _ rfl _ [(0,.string (strOfNums [x.n.name])),(1,.int .i64 x.n.kind),(2,.int .i64 x.n.parent)] (by simp[Act.eval]) (XK _ _ _)) hS1 ?_;refine jD 28 ?_;refine BB (some 55) rfl (.slice (some ⟨(wr.drew.alloc (.cells #[.int .u8 x.n.name] 5)).heap.size,0,none⟩) 1 1) ((wr.drew.alloc (.cells #[.int .u8 x.n.name] 5)).alloc (.cells #[.string (strOfNums [x.n.name]),.int .i64 x.n.kind,.int .i64 x.n.parent] 111)) (by simp[execOp,Act.eval,go_sem]) ?_;simp only[Act.put,pA,pB,pC];refine⟨hS2,?_⟩;refine jD 29 ?_;refine BB (some 56) rfl (.slice (some ⟨g9,0,none⟩) (k+1) c9) w9 (by simp[execOp,resolve,invoke,builtin,Act.eval,IB]) ?_;simp only[Act.put,pA,pB,pC];refine⟨uY,?_⟩;refine aU 30 7 (.slice (some ⟨g9,0,none⟩) (k+1) c9) uY ?_;refine wpAnyH_done (by kernel_rfl) (NoPanic.normal ?_) _;clear hS0 hS1 hS2 hcv IB v0 v1 v2 zc zd;go_wp2
   go_roundw
   case rel=>exact⟨k+1,by go_num,by omega,HZ,uY⟩
   case measure=>simp[intOf];omega
  have hge:¬(k:Int)<(l.length:Int):=by omega
  obtain rfl:k=l.length:=by omega
  have HQ:=hid (show TrQ w wr t u7 from⟨λh=>absurd H0.out h,λ_=>by
   have:=HO.out;rw[List.take_of_length_le (by rw[GN];exact Nat.le_refl _),HF.out.2.1]at this;rw[<-HF.out.2.1,GN,HF.out.2.1]
   exact cO this hsz1,HF.out.2.2.trans KW⟩)
  have akx:Hid ((Ch.read t).1=0):=H0;clear HO KW HF;go_wp2;go_ret2;exact⟨_,by rw[akx.out];rfl,HQ.out⟩
end
def yM(w:World)(v:Value)(ss:List St):Prop:=∃ao cap,v= .slice ao ss.length cap/\∀i s,ss[i]? =some s->∃g,ao=some ⟨g,0,none⟩/\w.cell? ⟨g,i*3,none⟩=some (.string (strOfNums [s.name]))/\w.cell? ⟨g,i*3+1,none⟩=some (.int .i64 s.kind)/\w.cell? ⟨g,i*3+2,none⟩=some (.int .i64 s.parent)
section
variable (w:World)
theorem DQ(a b:Value)(ss:List St)(ha:yM w a ss)(hb:yM w b ss)(hl:ss.length<=1000):
 Calls prog 95 #[a,b] w λx w'=>x= .returned (.bool true)/\Kp (λ_=>False) w w':=by
 obtain⟨ao,ac,rfl,ha⟩:=ha;obtain⟨bo,bc,rfl,hb⟩:=hb;have HA:=hid ha;have HB:=hid hb;clear ha hb
 go_enter func95,ntmps95
 go_wp2_with fail
 go_loopw [5] (λi wr=>∃k:Nat,i= .int .i64 k/\k<=ss.length/\Kp (λ_=>False) w wr) (λi _=>ss.length-(intOf i).toNat)
 case atStart=>exact⟨0,rfl,Nat.zero_le _,Kp.refl _ _⟩
 case round=>
  obtain⟨k,rfl,hk,KW⟩:=hrel
  by_cases hlt:k<ss.length
  ·have hlt':(k:Int)<(ss.length:Int):=by omega
   obtain⟨s,hs⟩:∃s,ss[k]? =some s:=⟨_,List.getElem?_eq_getElem hlt⟩
   obtain⟨g,rfl,a0,a1,a2⟩:=HA.out k s hs;obtain⟨g',rfl,b0,b1,b2⟩:=HB.out k s hs;have c0:=KW.bj a0;have c1:=KW.bj a1;have c2:=KW.bj a2;have d0:=KW.bj b0;have d1:=KW.bj b1;have d2:=KW.bj b2;clear a0 a1 a2 b0 b1 b2;generalize strOfNums [s.name]=nm at*
   go_upto_region 6 with(fail)
   go_quiet (fail)
   go_wp2
   go_roundw
   case rel=>exact⟨k+1,by go_num,by omega,KW.drewN _⟩
   case measure=>simp[intOf];omega
  have hge:¬(k:Int)<(ss.length:Int):=by omega
  go_wp2;go_ret;exact⟨rfl,KW⟩
end
def uM(n:Nat)(m:Int):List Value:=(List.replicate n [Value.string ⟨#[]⟩,.int .i64 m,.int .i64 m]).flatten
theorem xt(n:Nat)(m:Int):(uM n m).length=n*3:=by
 unfold uM;rw[List.length_flatten,List.map_replicate,List.sum_replicate_nat];rfl
theorem uN(n k:Nat)(m:Int):uM n m++uM k m=uM (n+k) m:=by
 unfold uM;rw[<-List.flatten_append,List.replicate_append_replicate]
theorem Ia{n:Nat}{m:Int}:∀u∈uM n m,u.oneCell'=true:=λu hu=>by
 unfold uM at hu;obtain⟨l,hl,hu⟩:=List.mem_flatten.1 hu;have:=List.eq_of_mem_replicate hl;subst this;simp at hu
 rcases hu with rfl|rfl<;>rfl
theorem mw{P:Program}(w:World)(t e:TypeId)(i:TypeInfo)(z:Value)(size bytes:Nat)(ht:P.underlying t=some (.slice e))(hi:P.info? e=some i)(hz:i.zero=some z)
 (hsize:i.size=size) (hby:i.bytes=bytes) (hzs:z.cells.size=size) (hsz:0<size) (base:Nat) (v:Value) (n:Nat) (xs:List Value) (hown:w.ownsRow base e size v n xs) (hcap:∀ao c,v= .slice ao n c->c=n)
 (a:Addr) (m c:Nat) (news:List Value) (hl:news.length=m*size) (hnews:∀j u,news[j]? =some u->w.cell? (a.add j)=some u) (h1:∀u∈news,u.oneCell'=true) (hm:0<m)
 (h63:n+m<=maxLen) (hbytes:(n+m)*bytes<=140737488355328):
 ∃v' w',(Builtin.append_ #[t,t] t #[v,.slice (some a) m c]).run P w= .ok v' w'/\w'.ownsRow w.heap.size e size v' (n+m) (xs++news)/\Kp (λ_=>False) w w':=by
 rcases hown.2 with⟨hv,h0⟩|⟨g,cap,cur,hv,hb,hg,hnc,_,hcs,htk⟩
 ·subst h0
  have hx:xs=[]:=List.eq_nil_of_length_eq_zero (by have:=hown.1;omega);subst hx;subst hv;obtain⟨v',w',hr,ho,hgr,_⟩:=run_append_own (P:=P) w w.heap.size t t e i z size bytes ht hi hz hsize hby hzs hsz _ 0 [] (World.ownsRow_nil w w.heap.size e size) a m c news hl hnews h1 h63 hbytes (Nat.le_refl _);exact⟨v',w',hr,ho,(Kp.refl _ _).grown hgr (λk hk _=>by simp[Value.ownBlock]at hk)⟩
 have hc:=hcap _ _ hv;subst hv;obtain⟨v',w',hr,ho,hgr⟩:=run_append_arg_grows (P:=P) w t t e i z size bytes ht hi hz hsize hby hzs hsz ⟨g,0,none⟩ n cap xs hown.1 (hown.cells (g:=g) rfl) a m c news hl hnews (by omega) h63 hbytes;exact⟨v',w',hr,ho,(Kp.refl _ _).grown hgr (λk hk _=>by simp at hk)⟩
theorem wpList_append_run{P:Program}{ops:Array Oper}{rest:List Oper}{o:Oper}{a:Act}{w:World}{Q:Exit->Act->World->Prop}(hgd:o.guard=none)(s x:Operand)(t:TypeId)
 (hop:o.op= .call {callee:=.builtin .append,args:=#[s,x],argTypes:=#[t,t]}) (v u v':Value) (w':World) (hs:a.eval s=v) (hx:a.eval x=u)
 (hr:(Builtin.append_ #[t,t] o.type #[v,u]).run P w= .ok v' w') (hK:wpList P ops Q rest (a.put o.dst v') w'):wpList P ops Q (o::rest) a w:=
 wpList_plain hgd λK hK'=>by
  unfold Oper.wp execOp;simp only[hop,resolve,invoke,builtin,Sem.run_bind,Sem.run_pure,Result.andThen_ok,List.map_toArray,List.map_cons,List.map_nil,hs,hx,hr];exact hK' _ _ hK
def wlA(nv mv:Value)(k:Int):Array Value:=#[.slice none 0 0,.slice none 0 0,nv,.slice none 0 0,mv,.int .i64 k]
section
variable (w:World) (wb:Nat)
theorem XS(nv mv:Value)(k:Int)(h:w.heap[wb]? =some (.cells (wlA nv mv k) 77 (0,0)))(h0:0<=k)(h1:k<=4000000000000):
 Calls prog 143 #[.pointer (some ⟨wb,0,none⟩)] w λx w'=>x= .returned (.int .i64 (-(k+1)))/\w'=w.setCell ⟨wb,5,none⟩ (.int .i64 (k+1)):=by
 have c5:w.cell? ⟨wb,5,none⟩=some (.int .i64 k):=by rw[World.cell?,h];rfl
 have f5:w.frozen? ⟨wb,5,none⟩=false:=by simp[World.frozen?,h]
 have d5:(w.setCell ⟨wb,5,none⟩ (.int .i64 (k+1))).cell? ⟨wb,5,none⟩=some (.int .i64 (k+1)):=by rw[World.cell?,ah _ h];rfl
 go_enter func143,ntmps143
 go_wp2;go_ret;exact⟨rfl,rfl⟩
end
theorem aaQ:(prog.info? 107).map (λi=>(i.zero,i.size,i.bytes))=some (some (.slice none 0 0),1,24):=by kernel_rfl
theorem aaR{n j:Nat}{m:Int}{xs:List Value}(hx:xs.length=n*3)(hj:j<n):(((uM j m++xs.drop (j*3)).set (j*3) (.string ⟨#[]⟩)).set (j*3+1) (.int .i64 m)).set (j*3+2) (.int .i64 m)=uM (j+1) m++xs.drop ((j+1)*3):=by
 have hl:=xt j m
 have e:xs.drop (j*3)=xs[j*3]'(by omega)::xs[j*3+1]'(by omega)::xs[j*3+2]'(by omega)::xs.drop ((j+1)*3):=by
  rw[List.drop_eq_getElem_cons (by omega),List.drop_eq_getElem_cons (by omega),List.drop_eq_getElem_cons (by omega)]
  congr 4
  omega
 rw[e,List.set_append_right _ _ (by omega),List.set_append_right _ _ (by omega),List.set_append_right _ _ (by omega),hl,<-uN];simp only[Nat.sub_self,Nat.add_sub_cancel_left,List.set_cons_zero,List.set_cons_succ];simp[uM]
section
variable (w:World) (wb B:Nat)
def agD(w w':World)(wb B:Nat)(nv mv v:Value)(k:Int)(n:Nat)(ls ms:List Value):Prop:=∃nv' mv' g1 g2 g3:Value,w'.heap[wb]? =some (.cells (wlA nv' mv' (k+1)) 77 (0,0))/\w'.ownsRow B 107 1 nv' (ls.length+4) (ls++[v,g1,g2,g3])/\w'.ownsRow B 3 1 mv' (ms.length+4) (ms++[.int .i64 (-(k+1)),.int .i64 (-(k+1)),.int .i64 (-(k+1)),.int .i64 (-(k+1))])/\
 w'.ownsRow 0 111 3 v n (uM n (-(k+1)))/\w'.ownsRow 0 111 3 g1 (n+1) (uM (n+1) (-(k+1)))/\w'.ownsRow 0 111 3 g2 (n+2) (uM (n+2) (-(k+1)))/\w'.ownsRow 0 111 3 g3 (n+3) (uM (n+3) (-(k+1)))/\
 Kp (λi=>i=wb\/nv.ownBlock=some i\/mv.ownBlock=some i\/v.ownBlock=some i) w w'
theorem Ib(nv mv v:Value)(k:Int)(n:Nat)(xs ls ms:List Value)(h:w.heap[wb]? =some (.cells (wlA nv mv k) 77 (0,0)))(h0:0<=k)(h1:k<=4000000000000)(hv:w.ownsRow B 111 3 v n xs)(hcap:∀ao c,v= .slice ao n c->c=n)(hn:n<=1000)
 (hnv:w.ownsRow B 107 1 nv ls.length ls) (hmv:w.ownsRow B 3 1 mv ms.length ms) (hls:ls.length<=4000000000000) (hms:ms.length<=4000000000000) (hB:B<=w.heap.size):
 Calls prog 96 #[.pointer (some ⟨wb,0,none⟩),v] w λx w'=>x= .returned (.tuple #[])/\agD w w' wb B nv mv v k n ls ms:=by
 obtain⟨i0,hi,hz0,hz1,hz2⟩:=info_parts Br;obtain⟨i1,hi1,hy0,hy1,hy2⟩:=info_parts aaQ;obtain⟨i2,hi2,hx0,hx1,hx2⟩:=info_parts lI;have E1:=hid (XS w wb nv mv k h h0 h1)
 have hw1:(w.setCell ⟨wb,5,none⟩ (.int .i64 (k+1))).heap[wb]? =some (.cells (wlA nv mv (k+1)) 77 (0,0)):=by rw[ah _ h];rfl
 have K1:Kp (λi=>i=wb) w (w.setCell ⟨wb,5,none⟩ (.int .i64 (k+1))):=(Kp.refl _ _).setCell (by intro _;rfl) _;have hv1:=K1.owns hv (λj hj e=>own_ne hv h (by decide) (by rw[hj,e]));have hn1:=K1.owns hnv (λj hj e=>own_ne hnv h (by decide) (by rw[hj,e]));have hm1:=K1.owns hmv (λj hj e=>own_ne hmv h (by decide) (by rw[hj,e]));have hxl:xs.length=n*3:=hv.1;obtain⟨ao,ac,rfl⟩:=aF hv;have hac:n=ac:=(hcap ao ac rfl).symm;subst hac;have H1:=hid (ae hw1 (ae K1 (ae hv1 (ae hn1 hm1))));clear hw1 K1 hv1 hn1 hm1 h hv hnv hmv hcap
 go_enter func96,ntmps96
 go_wp2_with fail
 refine bH E1 ?_;rintro y w1 ⟨rfl,e1⟩;rw[e1];clear e1 w1 E1;generalize w.setCell ⟨wb,5,none⟩ (.int .i64 (k+1))=w1 at*;generalize hmm: -(k+1)=m at*;have HM:=hid hmm;clear hmm
 go_wp2_with fail
 go_loopw [5] (λiv wr=>∃j:Nat,iv= .int .i64 j/\j<=n/\Hid (wr.ownsRow B 111 3 (.slice ao n n) n (uM j m++xs.drop (j*3)))/\Kp (λi=>(Value.slice ao n n).ownBlock=some i) w1 wr) (λiv _=>n-(intOf iv).toNat)
 case atStart=>exact⟨0,rfl,Nat.zero_le _,hid (by simpa[uM]using H1.out.2.2.1),Kp.refl _ _⟩
 case round=>
  obtain⟨j,rfl,hj,HO,KW⟩:=hrel
  by_cases hlt:j<n
  ·have hlt':(j:Int)<(n:Int):=by omega
   obtain⟨g,cap',hv',_⟩:=World.ownsRow.form HO.out (by omega);simp only[Value.slice.injEq]at hv';obtain⟨rfl,-,-⟩:=hv';have hll:(uM j m++xs.drop (j*3)).length=n*3:=HO.out.1
   obtain⟨v0,c0⟩:∃u,wr.cell? ⟨g,j*3,none⟩=some u:=⟨_,(World.ownsRow.cellAt HO.out (j*3) (by omega)).trans (List.getElem?_eq_getElem (by omega))⟩
   obtain⟨v1,c1⟩:∃u,wr.cell? ⟨g,j*3+1,none⟩=some u:=⟨_,(World.ownsRow.cellAt HO.out (j*3+1) (by omega)).trans (List.getElem?_eq_getElem (by omega))⟩
   obtain⟨v2,c2⟩:∃u,wr.cell? ⟨g,j*3+2,none⟩=some u:=⟨_,(World.ownsRow.cellAt HO.out (j*3+2) (by omega)).trans (List.getElem?_eq_getElem (by omega))⟩
   have fz:=World.ownsRow.frozenAt HO.out;have f0:=fz (j*3);have f1:=fz (j*3+1);have f2:=fz (j*3+2);have o3:=(World.ownsRow.stored (World.ownsRow.stored (World.ownsRow.stored HO.out (j*3) (.string ⟨#[]⟩)).1 (j*3+1) (.int .i64 m)).1 (j*3+2) (.int .i64 m)).1;rw[aaR hxl hlt]at o3;have K3:=((KW.setCell (p:=⟨g,j*3,none⟩) (λ_=>rfl) (.string ⟨#[]⟩)).setCell (p:=⟨g,j*3+1,none⟩) (λ_=>rfl) (.int .i64 m)).setCell (p:=⟨g,j*3+2,none⟩) (λ_=>rfl) (.int .i64 m);have HZ:=hid (ae o3 K3);clear o3 K3 HO KW fz hll;go_wp2
   go_roundw
   case rel=>exact⟨j+1,by go_num,by omega,hid HZ.out.1,HZ.out.2⟩
   case measure=>simp[intOf];omega
  have hge:¬(j:Int)<(n:Int):=by omega
  obtain rfl:j=n:=by omega
  have hv1:wr.ownsRow B 111 3 (.slice ao j j) j (uM j m):=by
   have:=HO.out;rw[List.drop_eq_nil_of_le (by omega),List.append_nil]at this;exact this
  have hac:∀ao' c,Value.slice ao j j= .slice ao' j c->c=j:=λ_ _ e=>by injection e with _ _ e;exact e.symm
  have hnb:=heap_alloc_new wr (.cells #[.string ⟨#[]⟩,.int .i64 m,.int .i64 m] 111);have Kn:Kp (λ_=>False) wr (wr.alloc (.cells #[.string ⟨#[]⟩,.int .i64 m,.int .i64 m] 111)):=(Kp.refl _ _).alloc _;have hv2:=Kn.owns hv1 (λ_ _ x=>x);have KA:Kp (λi=>(Value.slice ao j j).ownBlock=some i) w1 (wr.alloc (.cells #[.string ⟨#[]⟩,.int .i64 m,.int .i64 m] 111)):=KW.trans' Kn (λ_ _ x=>x.elim);clear Kn HO hv1 KW
  go_upto_region 6 with(fail)
  generalize wr.alloc (.cells #[.string ⟨#[]⟩,.int .i64 m,.int .i64 m] 111)=w2 at*;generalize wr.heap.size=nb at*;obtain⟨g1,w3,hr3,o3,K3⟩:=mw (P:=prog) (w2.alloc (.cells #[.string ⟨#[]⟩,.int .i64 m,.int .i64 m] 111)) 107 111 i0 (.agg #[.string ⟨#[]⟩,.int .i64 0,.int .i64 0]) 3 32 underlying107 hi hz0 hz1 hz2 rfl (by decide) B (.slice ao j j) j (uM j m) (by exact hv2.alloc _) hac ⟨w2.heap.size,0,none⟩ 1 1 (uM 1 m) (xt _ _) (by exact gB _ (uM 1 m) _) Ia (by decide) (by unfold maxLen;omega) (by omega);rw[uN]at o3;obtain⟨a1,b1,rfl⟩:=aF o3;replace K3:Kp (λ_=>False) w2 w3:=((Kp.refl _ _).alloc _).trans K3;have XT:=K3.at_ hnb (λx=>x);have hv3:=K3.owns hv2 (λ_ _ x=>x)
  have ea0:w2.cell? ⟨nb,0,none⟩=some (.string ⟨#[]⟩):=by rw[World.cell?,hnb];rfl
  have ea1:w2.cell? ⟨nb,1,none⟩=some (.int .i64 m):=by rw[World.cell?,hnb];rfl
  have ea2:w2.cell? ⟨nb,2,none⟩=some (.int .i64 m):=by rw[World.cell?,hnb];rfl
  go_upto_region 7 with(at_builtin;refine wpList_append_run rfl (.tmp 27) (.tmp 29) 107 rfl _ _ (.slice a1 (j+1) b1) w3 rfl rfl hr3 ?_)
  clear ea0 ea1 ea2;clear hr3 hnb;obtain⟨g2,w4,hr4,o4,K4⟩:=mw (P:=prog) (w3.alloc (.cells #[.string ⟨#[]⟩,.int .i64 m,.int .i64 m,.string ⟨#[]⟩,.int .i64 m,.int .i64 m] 111)) 107 111 i0 (.agg #[.string ⟨#[]⟩,.int .i64 0,.int .i64 0]) 3 32 underlying107 hi hz0 hz1 hz2 rfl (by decide) B (.slice ao j j) j (uM j m) (by exact hv3.alloc _) hac ⟨w3.heap.size,0,none⟩ 2 2 (uM 2 m) (xt _ _) (by exact gB _ (uM 2 m) _) Ia (by decide) (by unfold maxLen;omega) (by omega);rw[uN]at o4;obtain⟨a2,b2,rfl⟩:=aF o4;replace K4:Kp (λ_=>False) w3 w4:=((Kp.refl _ _).alloc _).trans K4;have aaS:=K4.at_ XT (λx=>x);have hv4:=K4.owns hv3 (λ_ _ x=>x);have p4:=K4.owns o3 (λ_ _ x=>x)
  have eb0:w3.cell? ⟨nb,0,none⟩=some (.string ⟨#[]⟩):=by rw[World.cell?,XT];rfl
  have eb1:w3.cell? ⟨nb,1,none⟩=some (.int .i64 m):=by rw[World.cell?,XT];rfl
  have eb2:w3.cell? ⟨nb,2,none⟩=some (.int .i64 m):=by rw[World.cell?,XT];rfl
  go_upto_region 8 with(at_builtin;refine wpList_append_run rfl (.tmp 31) (.tmp 34) 107 rfl _ _ (.slice a2 (j+2) b2) w4 rfl rfl hr4 ?_)
  clear eb0 eb1 eb2;clear hr4 XT o3;obtain⟨g3,w5,jV,o5,K5⟩:=mw (P:=prog) (w4.alloc (.cells #[.string ⟨#[]⟩,.int .i64 m,.int .i64 m,.string ⟨#[]⟩,.int .i64 m,.int .i64 m,.string ⟨#[]⟩,.int .i64 m,.int .i64 m] 111)) 107 111 i0 (.agg #[.string ⟨#[]⟩,.int .i64 0,.int .i64 0]) 3 32 underlying107 hi hz0 hz1 hz2 rfl (by decide) B (.slice ao j j) j (uM j m) (by exact hv4.alloc _) hac ⟨w4.heap.size,0,none⟩ 3 3 (uM 3 m) (xt _ _) (by exact gB _ (uM 3 m) _) Ia (by decide) (by unfold maxLen;omega) (by omega);rw[uN]at o5;obtain⟨a3,b3,rfl⟩:=aF o5;replace K5:Kp (λ_=>False) w4 w5:=((Kp.refl _ _).alloc _).trans K5;have hv5:=K5.owns hv4 (λ_ _ x=>x);have p5:=K5.owns p4 (λ_ _ x=>x);have q5:=K5.owns o4 (λ_ _ x=>x)
  have ec0:w4.cell? ⟨nb,0,none⟩=some (.string ⟨#[]⟩):=by rw[World.cell?,aaS];rfl
  have ec1:w4.cell? ⟨nb,1,none⟩=some (.int .i64 m):=by rw[World.cell?,aaS];rfl
  have ec2:w4.cell? ⟨nb,2,none⟩=some (.int .i64 m):=by rw[World.cell?,aaS];rfl
  go_upto_region 9 with(at_builtin;refine wpList_append_run rfl (.tmp 36) (.tmp 40) 107 rfl _ _ (.slice a3 (j+3) b3) w5 rfl rfl jV ?_)
  clear ec0 ec1 ec2;clear jV aaS o4 p4;obtain⟨hw1,K1,hv1,hn1,hm1⟩:=H1.out;have KT:Kp (λi=>(Value.slice ao j j).ownBlock=some i) w1 w5:=((KA.trans' K3 (λ_ _ x=>x.elim)).trans' K4 (λ_ _ x=>x.elim)).trans' K5 (λ_ _ x=>x.elim);have aaT:=KT.at_ hw1 (own_ne hv1 hw1 (by decide));have od:=KT.owns hn1 (cC hn1 hv1 (by decide));have hm5:=KT.owns hm1 (cC hm1 hv1 (by decide));have hsz5:B<=w5.heap.size:=Nat.le_trans hB (Nat.le_trans K1.size KT.size)
  have hone:∀u∈([.slice ao j j,(.slice a1 (j+1) b1),(.slice a2 (j+2) b2),(.slice a3 (j+3) b3)]:List Value),u.oneCell'=true:=by
   intro u hu;simp only[List.mem_cons,List.not_mem_nil,or_false]at hu
   rcases hu with rfl|rfl|rfl|rfl
   ·rfl
   ·exact fF p5
   ·exact fF q5
   exact fF o5
  obtain⟨gn,cn,w6,s9,o6,gr6,_⟩:=dC (P:=prog) (w5.alloc (.cells #[.slice ao j j,(.slice a1 (j+1) b1),(.slice a2 (j+2) b2),(.slice a3 (j+3) b3)] 107)) B 75 75 107 i1 (.slice none 0 0) 1 24 underlying75 hi1 hy0 hy1 hy2 rfl (by decide) nv ls.length ls (by exact od.alloc _) ⟨w5.heap.size,0,none⟩ 4 4 [.slice ao j j,(.slice a1 (j+1) b1),(.slice a2 (j+2) b2),(.slice a3 (j+3) b3)] rfl (by exact gB _ [.slice ao j j,(.slice a1 (j+1) b1),(.slice a2 (j+2) b2),(.slice a3 (j+3) b3)] _) hone (by decide) (by unfold maxLen;omega) (by omega) (by simp;omega);have K6:Kp (λi=>nv.ownBlock=some i) w5 w6:=((Kp.refl _ _).alloc (.cells #[.slice ao j j,(.slice a1 (j+1) b1),(.slice a2 (j+2) b2),(.slice a3 (j+3) b3)] 107)).grown (by exact gr6) (λi hi _=>hi);have Ux:=K6.at_ aaT (own_ne od aaT (by decide))
  have c2:w5.cell? ⟨wb,2,none⟩=some nv:=by rw[World.cell?,aaT];rfl
  have d2:w6.cell? ⟨wb,2,none⟩=some nv:=by rw[World.cell?,Ux];rfl
  have f2:w6.frozen? ⟨wb,2,none⟩=false:=by simp[World.frozen?,Ux]
  have Pg:(w6.setCell ⟨wb,2,none⟩ (.slice (some ⟨gn,0,none⟩) (ls.length+4) cn)).heap[wb]? =some (.cells (wlA (.slice (some ⟨gn,0,none⟩) (ls.length+4) cn) mv (k+1)) 77 (0,0)):=by rw[ah _ Ux];rfl
  have K7:Kp (λi=>i=wb) w6 (w6.setCell ⟨wb,2,none⟩ (.slice (some ⟨gn,0,none⟩) (ls.length+4) cn)):=(Kp.refl _ _).setCell (by intro _;rfl) _
  have FE:∀{e:TypeId} {sz:Nat} {v:Value} {n:Nat} {xs:List Value} {b:Nat},w5.ownsRow b e sz v n xs->e≠107->e≠77->(w6.setCell ⟨wb,2,none⟩ (.slice (some ⟨gn,0,none⟩) (ls.length+4) cn)).ownsRow b e sz v n xs:=λho h1 h2=>by
   have h6:=K6.owns ho (cC ho od h1);exact K7.owns h6 (λq hq e=>own_ne h6 Ux h2 (by rw[hq,e]))
  have hm7:=FE hm5 (by decide) (by decide);have hv7:=FE hv5 (by decide) (by decide);have p7:=FE p5 (by decide) (by decide);have q7:=FE q5 (by decide) (by decide);have r7:=FE o5 (by decide) (by decide);have o7:=K7.owns o6 (λq hq e=>own_ne o6 Ux (by decide) (by rw[hq,e]));have KX:Kp (λi=>i=wb\/nv.ownBlock=some i\/mv.ownBlock=some i\/(Value.slice ao j j).ownBlock=some i) w (w6.setCell ⟨wb,2,none⟩ (.slice (some ⟨gn,0,none⟩) (ls.length+4) cn)):=(((K1.mono (λ_ _ e=>.inl e)).trans' KT (λ_ _ e=>.inr (.inr (.inr e)))).trans' K6 (λ_ _ e=>.inr (.inl e))).trans' K7 (λ_ _ e=>.inl e);have adV:B<=(w6.setCell ⟨wb,2,none⟩ (.slice (some ⟨gn,0,none⟩) (ls.length+4) cn)).heap.size:=Nat.le_trans hB KX.size;have H7:=hid (ae Pg (ae hm7 (ae hv7 (ae p7 (ae q7 (ae r7 (ae o7 (ae KX adV))))))));clear hw1 K1 hv1 hn1 hm1 KT aaT od hm5 hv5 p5 q5 o5 FE o6 gr6 Ux K6 K7 H1 KA K3 K4 K5 hv2 hv3 hv4 Pg hm7 hv7 p7 q7 r7 o7 KX adV hone hac hsz5
  go_upto_region 10 with(at_builtin;refine wpList_append_run rfl (.tmp 46) (.tmp 51) 75 rfl _ _ (.slice (some ⟨gn,0,none⟩) (ls.length+4) cn) w6 rfl rfl s9 ?_)
  clear c2 d2 f2 s9;generalize w6.setCell ⟨wb,2,none⟩ (.slice (some ⟨gn,0,none⟩) (ls.length+4) cn)=w7 at*;obtain⟨Pg,hm7,hv7,p7,q7,r7,o7,KX,adV⟩:=H7.out;clear H7;obtain⟨gm,cm,w8,hr8,o8,gr8,_⟩:=dC (P:=prog) (w7.alloc (.cells #[.int .i64 m,.int .i64 m,.int .i64 m,.int .i64 m] 3)) B 38 38 3 i2 (.int .i64 0) 1 8 underlying38 hi2 hx0 hx1 hx2 rfl (by decide) mv ms.length ms (by exact hm7.alloc _) ⟨w7.heap.size,0,none⟩ 4 4 [.int .i64 m,.int .i64 m,.int .i64 m,.int .i64 m] rfl (by exact gB _ [.int .i64 m,.int .i64 m,.int .i64 m,.int .i64 m] _) (by intro u hu;simp at hu;subst hu;rfl) (by decide) (by unfold maxLen;omega) (by omega) (by simp;omega);have K8:Kp (λi=>mv.ownBlock=some i) w7 w8:=((Kp.refl _ _).alloc (.cells #[.int .i64 m,.int .i64 m,.int .i64 m,.int .i64 m] 3)).grown (by exact gr8) (λi hi _=>hi);have Uy:=K8.at_ Pg (own_ne hm7 Pg (by decide))
  have c4:w7.cell? ⟨wb,4,none⟩=some mv:=by rw[World.cell?,Pg];rfl
  have d4:w8.cell? ⟨wb,4,none⟩=some mv:=by rw[World.cell?,Uy];rfl
  have f4:w8.frozen? ⟨wb,4,none⟩=false:=by simp[World.frozen?,Uy]
  have agE:(w8.setCell ⟨wb,4,none⟩ (.slice (some ⟨gm,0,none⟩) (ms.length+4) cm)).heap[wb]? =some (.cells (wlA (.slice (some ⟨gn,0,none⟩) (ls.length+4) cn) (.slice (some ⟨gm,0,none⟩) (ms.length+4) cm) (k+1)) 77 (0,0)):=by rw[ah _ Uy];rfl
  have K9:Kp (λi=>i=wb) w8 (w8.setCell ⟨wb,4,none⟩ (.slice (some ⟨gm,0,none⟩) (ms.length+4) cm)):=(Kp.refl _ _).setCell (by intro _;rfl) _
  have FF:∀{e:TypeId} {sz:Nat} {v:Value} {n:Nat} {xs:List Value} {b:Nat},w7.ownsRow b e sz v n xs->e≠3->e≠77->(w8.setCell ⟨wb,4,none⟩ (.slice (some ⟨gm,0,none⟩) (ms.length+4) cm)).ownsRow b e sz v n xs:=λho h1 h2=>by
   have h6:=K8.owns ho (cC ho hm7 h1);exact K9.owns h6 (λq hq e=>own_ne h6 Uy h2 (by rw[hq,e]))
  have HQ:=hid (show agD w (w8.setCell ⟨wb,4,none⟩ (.slice (some ⟨gm,0,none⟩) (ms.length+4) cm)) wb B nv mv (.slice ao j j) k j ls ms from⟨(.slice (some ⟨gn,0,none⟩) (ls.length+4) cn),(.slice (some ⟨gm,0,none⟩) (ms.length+4) cm),(.slice a1 (j+1) b1),(.slice a2 (j+2) b2),(.slice a3 (j+3) b3),agE,FF o7 (by decide) (by decide),by rw[HM.out];exact K9.owns o8 (λq hq e=>own_ne o8 Uy (by decide) (by rw[hq,e])),by rw[HM.out];exact cO (FF hv7 (by decide) (by decide)) (Nat.zero_le _),by rw[HM.out];exact cO (FF p7 (by decide) (by decide)) (Nat.zero_le _),by rw[HM.out];exact cO (FF q7 (by decide) (by decide)) (Nat.zero_le _),by rw[HM.out];exact cO (FF r7 (by decide) (by decide)) (Nat.zero_le _),(KX.trans' K8 (λ_ _ e=>.inr (.inr (.inl e)))).trans' K9 (λ_ _ e=>.inl e)⟩);clear FF agE K9 K8 Uy o8 gr8 KX hm7 hv7 p7 q7 r7 o7 Pg
  go_wp2_with (at_builtin;refine wpList_append_run rfl (.tmp 59) (.tmp 64) 38 rfl _ _ (.slice (some ⟨gm,0,none⟩) (ms.length+4) cm) w8 rfl rfl hr8 ?_)
  go_end0
  exact⟨rfl,HQ.out⟩
end
def LsE(w:World)(e:Value×Nat×Int):Prop:=w.ownsRow 0 111 3 e.1 e.2.1 (uM e.2.1 e.2.2)/\e.2.1<=2000
theorem adW{n i:Nat}{m:Int}(h:i<n):(uM n m)[i*3]? =some (.string ⟨#[]⟩)/\(uM n m)[i*3+1]? =some (.int .i64 m)/\(uM n m)[i*3+2]? =some (.int .i64 m):=by
 obtain⟨k,rfl⟩:∃k,n=i+(1+k):=⟨n-i-1,by omega⟩
 rw[<-uN,<-uN];have hl:=xt i m;have h1:uM 1 m=[.string ⟨#[]⟩,.int .i64 m,.int .i64 m]:=rfl;rw[h1];refine⟨?_,?_,?_⟩
 ·rw[List.getElem?_append_right (by omega),hl];simp
 ·rw[List.getElem?_append_right (by omega),hl];simp
 rw[List.getElem?_append_right (by omega),hl];simp
section
variable (w:World) (wb B:Nat)
theorem Ph(nv mv:Value)(k:Int)(es:List (Value×Nat×Int))(h:w.heap[wb]? =some (.cells (wlA nv mv k) 77 (0,0)))(hnv:w.ownsRow B 107 1 nv es.length (es.map (·.1)))(hmv:w.ownsRow B 3 1 mv es.length (es.map λe=>.int .i64 e.2.2))(hes:∀e∈es,LsE w e)(hl:es.length<=4000000000000):
 Calls prog 41 #[.pointer (some ⟨wb,0,none⟩)] w λx w'=>x= .returned (.bool true)/\Kp (λ_=>False) w w':=by
 obtain⟨na,nc,rfl⟩:=aF hnv;obtain⟨ma,mc,rfl⟩:=aF hmv
 have c1:w.cell? ⟨wb,1,none⟩=some (.slice none 0 0):=by rw[World.cell?,h];rfl
 have H:=hid (ae h (ae hnv (ae hmv hes)));clear h hnv hmv hes
 go_enter func41,ntmps41
 go_wp2
 go_loop [3] (λi=>i= .int .i64 0) (λ_=>0)
 case atStart=>rfl
 case round=>
  subst hrel;go_wp2
  go_loopw [5] (λiv wr=>∃i:Nat,iv= .int .i64 i/\i<=es.length/\Kp (λ_=>False) w wr) (λiv _=>es.length-(intOf iv).toNat)
  case atStart=>exact⟨0,rfl,Nat.zero_le _,Kp.refl _ _⟩
  case round=>
   obtain⟨i,rfl,hi,KW⟩:=hrel;have hb:=KW.at_ H.out.1 (λx=>x)
   have d2:wr.cell? ⟨wb,2,none⟩=some (.slice na es.length nc):=by rw[World.cell?,hb];rfl
   by_cases hlt:i<es.length
   ·have hlt':(i:Int)<(es.length:Int):=by omega
    obtain⟨e,he⟩:∃e,es[i]? =some e:=⟨_,List.getElem?_eq_getElem hlt⟩
    have hE:=H.out.2.2.2 e (List.mem_of_getElem? he);obtain⟨v,n,m⟩:=e;obtain⟨va,vc,hva⟩:=aF hE.1;simp only at hva;subst hva;have hn:=hE.2;simp only at hn;obtain⟨gn,cn',hn',_⟩:=World.ownsRow.form H.out.2.1 (by omega);simp only[Value.slice.injEq]at hn';obtain⟨rfl,-,-⟩:=hn';obtain⟨gm,cm',hm',_⟩:=World.ownsRow.form H.out.2.2.1 (by omega);simp only[Value.slice.injEq]at hm';obtain⟨rfl,-,-⟩:=hm'
    have z0:w.cell? ⟨gn,i,none⟩=some (.slice va n vc):=by
     rw[World.ownsRow.cellAt H.out.2.1 i (by omega),List.getElem?_map,he];rfl
    have y0:w.cell? ⟨gm,i,none⟩=some (.int .i64 m):=by
     rw[World.ownsRow.cellAt H.out.2.2.1 i (by omega),List.getElem?_map,he];rfl
    have hE1:w.ownsRow 0 111 3 (.slice va n vc) n (uM n m):=hE.1;have HE:=hid (ae hE1 hE1);clear hE hE1 hb he
    go_wp2_with fail
    go_loopw [6] (λkv wq=>∃j:Nat,kv= .int .i64 j/\j<=n/\Kp (λ_=>False) w wq) (λkv _=>n-(intOf kv).toNat)
    case atStart=>exact⟨0,rfl,Nat.zero_le _,KW⟩
    case round=>
     clear d2;obtain⟨j,rfl,hj,KQ⟩:=hrel;have hb:=KQ.at_ H.out.1 (λx=>x)
     have d2:wr.cell? ⟨wb,2,none⟩=some (.slice (some ⟨gn,0,none⟩) es.length nc):=by rw[World.cell?,hb];rfl
     have z1:=KQ.bj z0
     by_cases hjn:j<n
     ·have ap7:(j:Int)<(n:Int):=by omega
      obtain⟨gv,cv',hv',_⟩:=World.ownsRow.form HE.out.1 (by omega);simp only[Value.slice.injEq]at hv';obtain⟨rfl,-,-⟩:=hv';obtain⟨m0,m1,m2⟩:=adW (m:=m) hjn;have x0:=KQ.bj ((World.ownsRow.cellAt HE.out.1 (j*3) (by omega)).trans m0);have x1:=KQ.bj ((World.ownsRow.cellAt HE.out.1 (j*3+1) (by omega)).trans m1);have x2:=KQ.bj ((World.ownsRow.cellAt HE.out.1 (j*3+2) (by omega)).trans m2);have KN:Kp (λ_=>False) w (wr.alloc (.cells #[.string ⟨#[]⟩,.int .i64 m,.int .i64 m] 111)):=KQ.alloc _;have hbN:=KN.at_ H.out.1 (λx=>x);have hnb:=heap_alloc_new wr (.cells #[.string ⟨#[]⟩,.int .i64 m,.int .i64 m] 111);clear m0 m1 m2
      go_upto_region 16 with(fail)
      generalize wr.alloc (.cells #[.string ⟨#[]⟩,.int .i64 m,.int .i64 m] 111)=wn at*
      have a0:wn.cell? ⟨wr.heap.size,0,none⟩=some (.string ⟨#[]⟩):=by rw[World.cell?,hnb];rfl
      have a1:wn.cell? ⟨wr.heap.size,1,none⟩=some (.int .i64 m):=by rw[World.cell?,hnb];rfl
      have a2:wn.cell? ⟨wr.heap.size,2,none⟩=some (.int .i64 m):=by rw[World.cell?,hnb];rfl
      have d4:wn.cell? ⟨wb,4,none⟩=some (.slice (some ⟨gm,0,none⟩) es.length mc):=by rw[World.cell?,hbN];rfl
      have y1:=KN.bj y0;clear hb hbN hnb d2 z1 x0 x1 x2 KQ
      go_quiet (fail)
      go_wp2
      go_roundw
      case rel=>exact⟨j+1,by go_num,by omega,KN.drewN _⟩
      case measure=>simp[intOf];omega
     have hge:¬(j:Int)<(n:Int):=by omega
     clear hb;go_wp2
     go_roundw
     case rel=>exact⟨i+1,by go_num,by omega,KQ⟩
     case measure=>simp[intOf];omega
   have hge:¬(i:Int)<(es.length:Int):=by omega
   go_wp2;go_ret;exact⟨rfl,KW⟩
end
section
variable (w:World)
theorem Pj(v:Value)(ops:List qX)(lo hi:Int)(WI:Nat->World->Prop)(hs:Mp w v ops)(hl:ops.length<=maxLen)
 (hmono:∀k W,WI k W->WI (k+1) W)
 (h0:WI 0 (w.alloc (.cells #[.slice none 0 0,.slice none 0 0,.slice none 0 0,.slice none 0 0,.slice none 0 0,.int .i64 0] 77)))
 (hstep:∀(k:Nat) (W:World) (o:qX),k<ops.length->o∈ops->lo<=o.kind->o.kind<=hi->WI k W->KB w.heap.size w W->Calls prog 39 #[.pointer (some ⟨w.heap.size,0,none⟩),.agg (jR o)] W λx W'=>x= .returned (.bool true)/\WI (k+1) W'/\KB w.heap.size W W')
 (K_:∀W:World,WI ops.length W->KB w.heap.size w W->Calls prog 40 #[.pointer (some ⟨w.heap.size,0,none⟩)] W λx W'=>x= .returned (.bool true)/\WI ops.length W'/\KB w.heap.size W W')
 (La:∀W:World,WI ops.length W->KB w.heap.size w W->Calls prog 41 #[.pointer (some ⟨w.heap.size,0,none⟩)] W λx W'=>x= .returned (.bool true)/\KB w.heap.size W W'):
 Calls prog 19 #[v,.int .i64 lo,.int .i64 hi] w λx w'=>x= .returned (.bool true)/\Kp (λ_=>False) w w':=by
 unfold maxLen at hl;obtain⟨d,hd,eY⟩:=zm;obtain⟨ao,cap,rfl⟩:=hs.len;have K0:KB w.heap.size w (w.alloc (.cells #[.slice none 0 0,.slice none 0 0,.slice none 0 0,.slice none 0 0,.slice none 0 0,.int .i64 0] 77)):=(Kp.refl _ _).alloc _;have HST:=hid hstep;have HMO:=hid hmono;have HEN:=hid K_;have HLK:=hid La;have HSC:=hid hs;clear hstep K_ La hs hmono
 go_enter func19,ntmps19
 go_upto_region 3 with(fail)
 generalize w.alloc (.cells #[.slice none 0 0,.slice none 0 0,.slice none 0 0,.slice none 0 0,.slice none 0 0,.int .i64 0] 77)=w1 at*
 go_loopw [8] (λi wr=>∃k:Nat,i= .int .i64 k/\k<=ops.length/\Hid (WI k wr/\KB w.heap.size w wr)) (λi _=>ops.length-(intOf i).toNat)
 case atStart=>exact⟨0,rfl,Nat.zero_le _,hid ⟨h0,K0⟩⟩
 case round=>
  obtain⟨k,rfl,hk,HW⟩:=hrel
  by_cases hlt:k<ops.length
  ·have hlt':(k:Int)<(ops.length:Int):=by omega
   obtain⟨o,ho⟩:∃o,ops[k]? =some o:=⟨_,List.getElem?_eq_getElem hlt⟩
   obtain⟨g,off,cap',hv,hc⟩:=(HSC.out.keep HW.out.2).at_ ho;simp only[Value.slice.injEq,true_and]at hv;obtain⟨rfl,rfl⟩:=hv;have z0:wr.cell? ⟨g,off+k*14,none⟩=some (.int .i64 o.kind):=hc 0 _ rfl
   by_cases hlo:lo<=o.kind
   ·by_cases hhi:o.kind<=hi
    ·have E:=hid (HST.out k wr o hlt (List.mem_of_getElem? ho) hlo hhi HW.out.1 HW.out.2)
     go_wp2_with (refine aY rfl 81 (.tmp 38) rfl g (off+k*14) rfl (opL o) d hc hd eY tR ?_)
     refine hm E ?_;rintro y w2 ⟨rfl,h2,K2⟩;have HW2:=hid (show WI (k+1) w2/\KB w.heap.size w w2 from⟨h2,Kp.trans HW.out.2 K2⟩);clear E h2 K2;go_wp2
     go_roundw
     case rel=>exact⟨k+1,by go_num,by omega,HW2⟩
     case measure=>simp[intOf];omega
    go_wp2
    go_roundw
    case rel=>exact⟨k+1,by go_num,by omega,hid ⟨HMO.out _ _ HW.out.1,HW.out.2⟩⟩
    case measure=>simp[intOf];omega
   go_wp2
   go_roundw
   case rel=>exact⟨k+1,by go_num,by omega,hid ⟨HMO.out _ _ HW.out.1,HW.out.2⟩⟩
   case measure=>simp[intOf];omega
  have hge:¬(k:Int)<(ops.length:Int):=by omega
  obtain rfl:k=ops.length:=by omega
  have E1:=hid (HEN.out wr HW.out.1 HW.out.2)
  go_wp2_with fail
  refine hm E1 ?_;rintro y w2 ⟨rfl,h2,K2⟩;have K3:KB w.heap.size w w2:=Kp.trans HW.out.2 K2;have E2:=hid (HLK.out w2 h2 K3)
  go_wp2_with fail
  refine hm E2 ?_;rintro y w3 ⟨rfl,K4⟩;go_wp2;go_ret;exact⟨rfl,(show KB w.heap.size w w3 from Kp.trans K3 K4).mono (λi hi x=>by omega)⟩
end
def QT(wb B K:Nat)(W:World):Prop:=∃(nv mv:Value) (k:Int) (es:List (Value×Nat×Int)),W.heap[wb]? =some (.cells (wlA nv mv k) 77 (0,0))/\0<=k/\k<=K/\es.length<=4*K/\W.ownsRow B 107 1 nv es.length (es.map (·.1))/\W.ownsRow B 3 1 mv es.length (es.map λe=>.int .i64 e.2.2)/\(∀e∈es,LsE W e)/\B<=W.heap.size
theorem QT.up{wb B K:Nat}{W:World}(h:QT wb B K W):QT wb B (K+1) W:=by
 obtain⟨nv,mv,k,es,h1,h2,h3,h4,r⟩:=h;exact⟨nv,mv,k,es,h1,h2,by omega,by omega,r⟩
theorem QT.keep{wb B K:Nat}{W W':World}(h:QT wb B K W)(k0:Kp (λ_=>False) W W'):QT wb B K W':=by
 obtain⟨nv,mv,k,es,h1,h2,h3,h4,h5,h6,h7,h8⟩:=h;exact⟨nv,mv,k,es,k0.at_ h1 (λx=>x),h2,h3,h4,k0.owns h5 (λ_ _ x=>x),k0.owns h6 (λ_ _ x=>x),λe he=>⟨k0.owns (h7 e he).1 (λ_ _ x=>x),(h7 e he).2⟩,Nat.le_trans h8 k0.size⟩
theorem aaU(ss:List St):(IE ss).length=ss.length*3:=by
 unfold IE
 induction ss with
 |nil=>rfl
 |cons a l ih=>rw[List.flatMap_cons,List.length_append,ih];simp[ndA];omega
theorem adX{ss:List St}{i:Nat}{s:St}(h:ss[i]? =some s):(IE ss)[i*3]? =some (.string (strOfNums [s.name]))/\(IE ss)[i*3+1]? =some (.int .i64 s.kind)/\(IE ss)[i*3+2]? =some (.int .i64 s.parent):=by
 have hlt:=(List.getElem?_eq_some_iff.1 h).1
 have e:IE ss=IE (ss.take i)++([.string (strOfNums [s.name]),.int .i64 s.kind,.int .i64 s.parent]++IE (ss.drop (i+1))):=by
  rw[<-List.append_assoc,<-Lv h];unfold IE;rw[<-List.flatMap_append,List.take_append_drop]
 have hl:(IE (ss.take i)).length=i*3:=by rw[aaU,List.length_take];omega
 rw[e];refine⟨?_,?_,?_⟩
 ·rw[List.getElem?_append_right (by omega),hl];simp
 ·rw[List.getElem?_append_right (by omega),hl];simp
 rw[List.getElem?_append_right (by omega),hl];simp
theorem yM.nil(w:World):yM w (.slice none 0 0) []:=⟨none,0,rfl,λi s h=>by simp at h⟩
theorem yM.ofRow{w:World}{B:Nat}{u:Value}{ss:List St}(h:w.ownsRow B 111 3 u ss.length (IE ss)):yM w u ss:=by
 obtain⟨ao,c,rfl⟩:=aF h;refine⟨ao,c,rfl,λi s hs=>?_⟩;have hlt:=(List.getElem?_eq_some_iff.1 hs).1;obtain⟨g,c',hv,_⟩:=World.ownsRow.form h (by omega);simp only[Value.slice.injEq]at hv;obtain⟨rfl,-,-⟩:=hv;obtain⟨h0,h1,h2⟩:=adX hs;exact⟨g,rfl,(World.ownsRow.cellAt h (i*3) (by omega)).trans h0,(World.ownsRow.cellAt h (i*3+1) (by omega)).trans h1,(World.ownsRow.cellAt h (i*3+2) (by omega)).trans h2⟩
theorem yM.agF{w:World}{g:Nat}{ss:List St}(h:Qs w g ss.length ss.length ss):yM w (.slice (some ⟨g,0,none⟩) ss.length ss.length) ss:=by
 obtain⟨C,hC,_,hx⟩:=h;refine⟨_,_,rfl,λi s hs=>⟨g,rfl,?_,?_,?_⟩⟩
 ·rw[World.cell?,hC];exact hx i s (List.getElem?_eq_some_iff.1 hs).1 hs 0 (by omega)
 ·rw[World.cell?,hC];exact hx i s (List.getElem?_eq_some_iff.1 hs).1 hs 1 (by omega)
 rw[World.cell?,hC];exact hx i s (List.getElem?_eq_some_iff.1 hs).1 hs 2 (by omega)
theorem adY{w:World}{B g:Nat}{ss:List St}(h:Qs w g ss.length ss.length ss)(hB:B<=g)(hl:ss.length<=16):∃xs,w.ownsRow B 111 3 (.slice (some ⟨g,0,none⟩) ss.length ss.length) ss.length xs:=by
 obtain⟨C,hC,hs,_⟩:=h;exact⟨C.toList,by simp[hs],.inr ⟨g,_,C,rfl,hB,hC,Nat.le_refl _,by unfold maxLen;omega,hs,by rw[List.take_of_length_le (by simp[hs])]⟩⟩
theorem yM.keep{w w':World}{v:Value}{ss:List St}(h:yM w v ss)(k:Kp (λ_=>False) w w'):yM w' v ss:=by
 obtain⟨ao,c,hv,hx⟩:=h;refine⟨ao,c,hv,λi s hs=>?_⟩;obtain⟨g,h1,h2,h3,h4⟩:=hx i s hs;exact⟨g,h1,k.bj h2,k.bj h3,k.bj h4⟩
theorem Pk{w1 w2:World}{t:ByteArray}{v:Value}(h1:(Ch.read t).1≠0->v= .slice none 0 0)(h2:(Ch.read t).1=0->∃g,v= .slice (some ⟨g,0,none⟩) (Ch.read t).2.2.ag.length (Ch.read t).2.2.ag.length/\w1.heap.size<=g/\Qs w2 g (Ch.read t).2.2.ag.length (Ch.read t).2.2.ag.length (Ch.read t).2.2.ag):
 ∃ss xs,ss.length<=16/\yM w2 v ss/\w2.ownsRow w1.heap.size 111 3 v ss.length xs/\(∀ao c,v= .slice ao ss.length c->c=ss.length)/\ss=if(Ch.read t).1=0 then(Ch.read t).2.2.ag else[]:=by
 by_cases h0:(Ch.read t).1=0
 ·obtain⟨g,rfl,hg,hN⟩:=h2 h0
  have hl:=(wR h0).1.le;obtain⟨xs,hx⟩:=adY hN hg hl;exact⟨_,xs,hl,.agF hN,hx,λ_ _ e=>by injection e with _ _ e;exact e.symm,by rw[if_pos h0]⟩
 obtain rfl:=h1 h0;exact⟨[],[],by simp,.nil _,World.ownsRow_nil _ _ _ _,λ_ _ e=>by injection e with _ _ e;exact e.symm,by rw[if_neg h0]⟩
section
variable (w:World) (wb B:Nat)
theorem DR(o:qX)(K:Nat)(hk:o.kind=2)(hI:QT wb B K w)(hK:K<=900000000000):
 Calls prog 64 #[.pointer (some ⟨wb,0,none⟩),.agg (jR o)] w λx w'=>x= .returned (.bool true)/\QT wb B (K+1) w'/\(wb<w.heap.size->B<=wb->KB B w w'):=by
 have hb1:=heap_alloc_new w (.cells (jR o) 81);have K1:Kp (λ_=>False) w (w.alloc (.cells (jR o) 81)):=(Kp.refl _ _).alloc _;have HI:=hid hI;clear hI
 go_enter func64,ntmps64
 go_upto_region 1 with(fail)
 generalize w.alloc (.cells (jR o) 81)=w1 at*;generalize AJ:w.heap.size=ob at*
 have c0:w1.cell? ⟨ob,0,none⟩=some (.int .i64 2):=by rw[World.cell?,hb1,<-hk];rfl
 have c1:w1.cell? ⟨ob,1,none⟩=some (.string o.t):=by rw[World.cell?,hb1];rfl
 have E1:=hid (Es w1 o.t)
 go_wp2_with fail
 refine hm E1 ?_;rintro x w2 ⟨v,rfl,hv1,hv2,K2⟩;have c2:=K2.bj c1;have E2:=hid (Uw w2 o.t);obtain⟨ss,xs,hss,hNv,hov,hcap,hse⟩:=Pk hv1 hv2;obtain⟨ao,ac,rfl⟩:=aF hov;have HV:=hid (ae hNv (ae hov (ae hcap hse)));clear hv1 hv2 E1 c0 c1 hNv hov hcap hse
 go_wp2_with fail
 refine hm E2 ?_;rintro x w3 ⟨u,rfl,hu1,hu2,K3⟩
 have hNu:yM w3 u ss:=by
  have hse:=HV.out.2.2.2
  by_cases h0:(Ch.read o.t).1=0
  ·rw[if_pos h0]at hse
   subst hse;exact .ofRow (hu2 h0)
  rw[if_neg h0]at hse;subst hse;rw[hu1 h0];exact .nil _
 have E3:=hid (DQ w3 _ u ss (HV.out.1.keep K3) hNu (by omega));have KA:=(K1.trans K2).trans K3;have HA:=hid (ae KA (ae K2 K3));clear E2 c2 hu1 hu2 hNu K3 KA;generalize (Ch.read o.t).1=re at*
 go_wp2_with fail
 refine hm E3 ?_;rintro x w4 ⟨rfl,K4⟩;obtain⟨nv,mv,k,es,h1,h2,h3,h4,h5,h6,h7,h8⟩:=HI.out;have KC:=HA.out.1.trans K4;have hov:=HV.out.2.1;have hsz1:=K1.size;have agG:=cO ((HA.out.2.2.trans K4).owns hov (λ_ _ x=>x)) (show B<=w1.heap.size by omega);have E4:=hid (Ib w4 wb B nv mv (.slice ao ss.length ac) k ss.length xs (es.map (·.1)) (es.map λe=>.int .i64 e.2.2) (KC.at_ h1 (λx=>x)) h2 (by omega) agG HV.out.2.2.1 (by omega) (by simpa using KC.owns h5 (λ_ _ x=>x)) (by simpa using KC.owns h6 (λ_ _ x=>x)) (by simp;omega) (by simp;omega) (Nat.le_trans h8 KC.size));clear E3 K4 agG
 go_wp2_with fail
 refine hm E4 ?_;rintro x w5 ⟨rfl,nv',mv',g1,g2,g3,r1,r2,r3,r4,r5,r6,r7,r8⟩
 have hold:∀e∈es,LsE w5 e:=λe he=>by
  have hw:=(h7 e he).1;have h4':=KC.owns hw (λ_ _ x=>x);refine⟨r8.owns h4' (λq hq S=>?_),(h7 e he).2⟩
  rcases S with S|S|S|S
  ·exact own_ne h4' (KC.at_ h1 (λx=>x)) (by decide) (by rw[hq,S])
  ·exact cC h4' (KC.owns h5 (λ_ _ x=>x)) (by decide) q hq S
  ·exact cC h4' (KC.owns h6 (λ_ _ x=>x)) (by decide) q hq S
  have a1:=(hw.lt q hq).2;have a2:=(hov.lt q S).1;omega
 have HT:=hid (show QT wb B (K+1) w5 from⟨nv',mv',k+1,es++[(.slice ao ss.length ac,ss.length,-(k+1)),(g1,ss.length+1,-(k+1)),(g2,ss.length+2,-(k+1)),(g3,ss.length+3,-(k+1))],r1,by omega,by omega,by simp;omega,by simpa using r2,by simpa using r3,λe he=>by
  rcases List.mem_append.1 he with he|he
  ·exact hold e he
  simp only[List.mem_cons,List.not_mem_nil,or_false]at he
  rcases he with rfl|rfl|rfl|rfl
  ·exact⟨r4,by simp only;omega⟩
  ·exact⟨r5,by simp only;omega⟩
  ·exact⟨r6,by simp only;omega⟩
  exact⟨r7,by simp only;omega⟩,Nat.le_trans h8 (Nat.le_trans KC.size r8.size)⟩)
 have HK:=hid (show(wb<ob->B<=wb->KB B w w5)from λ_ hwb=>by
  refine(KC.mono (S':=λi=>B<=i) (λ_ _ x=>x.elim)).trans' r8 (λq _ S=>?_)
  rcases S with S|S|S|S
  ·omega
  ·exact(h5.lt q S).1
  ·exact(h6.lt q S).1
  have:=(hov.lt q S).1;omega)
 have E6:=hid (uL w5 re);clear E4 hold r1 r2 r3 r4 r5 r6 r7 r8 h1 h5 h6 h7 KC hov HV HA
 go_wp2_with fail
 refine hm E6 ?_;rintro x w7 ⟨rfl,e7⟩;rw[e7];clear e7 w7
 go_wp2_with fail
 refine hm E6 ?_;rintro x w7 ⟨rfl,e7⟩;rw[e7];clear e7 w7;go_wp2;go_ret;exact⟨rfl,HT.out,by rw[AJ];exact HK.out⟩
theorem DS(o:qX)(K:Nat)(hk:o.kind=2)(hI:QT wb B K w)(hK:K<=900000000000)(hwb:wb<w.heap.size)(hBw:B<=wb):
 Calls prog 39 #[.pointer (some ⟨wb,0,none⟩),.agg (jR o)] w λx w'=>x= .returned (.bool true)/\QT wb B (K+1) w'/\KB B w w':=by
 obtain⟨d,hd,eY⟩:=zm;have hb1:=heap_alloc_new w (.cells (jR o) 81);have K1:Kp (λ_=>False) w (w.alloc (.cells (jR o) 81)):=(Kp.refl _ _).alloc _;have E:=hid (DR (w.alloc (.cells (jR o) 81)) wb B o K hk (hI.keep K1) hK)
 have hk0:(jR o)[0]? =some (.int .i64 2):=by rw[<-hk];rfl
 have hsz:=qH o;generalize jR o=OA at*
 have aI:(prog.info? 81).map (·.size)=some OA.size:=by rw[hsz];exact tR
 go_enter func39,ntmps39
 go_upto_region 1 with(fail)
 generalize w.alloc (.cells OA 81)=w1 at*;generalize AJ:w.heap.size=ob at*
 have c0:w1.cell? ⟨ob,0,none⟩=some (.int .i64 2):=by rw[World.cell?,hb1];exact hk0
 go_wp2_with (refine wpList_load_row rfl 81 (.tmp 3) rfl ob rfl 81 OA (0,0) d hb1 hd (by cases d<;>first|rfl|exact absurd eY (by simp[ak])) aI ?_)
 refine hm E ?_;rintro x w2 ⟨rfl,T2,K2⟩;have K3:=K2 (by have:=K1.size;omega) hBw;have HT:=hid (ae T2 (show KB B w w2 from(K1.mono (S':=λi=>B<=i) (λ_ _ x=>x.elim)).trans K3));clear E T2 K2 K3 hI;go_wp2;go_ret;exact⟨rfl,HT.out⟩
theorem Uz(K:Nat)(h:QT wb B K w):
 Calls prog 40 #[.pointer (some ⟨wb,0,none⟩)] w λx w'=>x= .returned (.bool true)/\w'=w:=by
 obtain⟨nv,mv,k,es,h1,_⟩:=h
 have c0:w.cell? ⟨wb,0,none⟩=some (.slice none 0 0):=by rw[World.cell?,h1];rfl
 go_enter func40,ntmps40
 go_wp2
 go_loop [3] (λi=>i= .int .i64 0) (λ_=>0)
 case atStart=>rfl
 case round=>
  subst hrel;go_wp2;go_ret;exact⟨rfl,rfl⟩
theorem Pm(K:Nat)(hK:K<=900000000000)(h:QT wb B K w):
 Calls prog 41 #[.pointer (some ⟨wb,0,none⟩)] w λx w'=>x= .returned (.bool true)/\Kp (λ_=>False) w w':=by
 obtain⟨nv,mv,k,es,h1,_,_,h4,h5,h6,h7,_⟩:=h;exact Ph w wb B nv mv k es h1 h5 h6 h7 (by omega)
theorem UA(v:Value)(ops:List qX)(hs:Mp w v ops)(hl:ops.length<=900000000000):
 Calls prog 4 #[v] w λx w'=>x= .returned (.bool true)/\Kp (λ_=>False) w w':=by
 have E:=hid (Pj w v ops 2 2 (λK W=>QT w.heap.size w.heap.size K W) hs (by unfold maxLen;omega) (λ_ _ h=>h.up)
  ⟨.slice none 0 0,.slice none 0 0,0,[],heap_alloc_new w _,by omega,by omega,by simp,World.ownsRow_nil _ _ _ _,World.ownsRow_nil _ _ _ _,by simp,by simp⟩
  (λK W o hk _ h1 h2 hW _=>DS W w.heap.size w.heap.size o K (by omega) hW (by omega) (by obtain⟨_,_,_,_,hb,_⟩:=hW;exact lt_of_block hb) (Nat.le_refl _))
  (λW hW _=>(Uz W w.heap.size w.heap.size ops.length hW).mono (λx W' ⟨hx,hk⟩=>by subst hk;exact⟨hx,hW,Kp.refl _ _⟩))
  (λW hW _=>(Pm W w.heap.size w.heap.size ops.length (by omega) hW).mono (λx W' ⟨hx,hk⟩=>⟨hx,hk.mono (λ_ _ x=>x.elim)⟩)))
 go_enter func4,ntmps4
 go_wp2_with fail
 refine hm E ?_;rintro x w2 ⟨rfl,K⟩;go_wp2;go_ret;exact⟨rfl,K⟩
end
end Go.Proofs.YtnlbchmfcebeeaaGreat
