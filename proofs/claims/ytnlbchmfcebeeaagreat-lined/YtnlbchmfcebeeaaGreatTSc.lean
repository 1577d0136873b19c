import Derived.Test.YtnlbchmfcebeeaaGreatTSb
set_option maxHeartbeats 12800000
set_option maxRecDepth 100000
namespace Go.Proofs.YtnlbchmfcebeeaaGreat
open Go.Proofs.Tryz Ch
open Go.RowKit
namespace Ch
def DU(made:Nat)(l:List Vr)(k:Nat)(v:Vr):List Vr:=kJ made (l.set k {v with pins:=v.pins-1})
end Ch
section
variable (w:World) {B sb so:Nat} {C:Array Value} {T:TypeId} {made:Nat} {kept:List Vr} {kv:Value}
def UF(w w':World)(B sb so:Nat)(C:Array Value)(T:TypeId)(kv:Value)(l:List Vr):Prop:=
 ∃kq,w'.heap[sb]? =some (.cells (C.setIfInBounds (so+1) kq) T (0,0))/\w'.ownsRow B 261 38 kq l.length (gh l)/\(∀k,kq.ownBlock=some k->w.heap.size<=k)/\Kp (λk=>k=sb\/kv.ownBlock=some k) w w'
def vK(kept:List Vr)(k:Nat)(v:Vr)(i:Nat):List Vr:=if i<=k then kept else kept.set k {v with pins:=v.pins-1}
theorem Yf(kept:List Vr)(k:Nat)(v:Vr)(i:Nat):(vK kept k v i).length=kept.length:=by unfold vK;split<;>simp
def CM(k:Nat)(v:Vr)(i:Nat):Sd:=if i<=k then vJ else v.now
theorem aaY{kept:List Vr}{k:Nat}{v:Vr}{i:Nat}:i≠k->(vK kept k v i)[i]? =kept[i]?:=by
 intro hne;unfold vK
 split
 ·rfl
 rw[List.getElem?_set_ne (by omega)]
theorem mR:vJ.Wf:=⟨by decide,by decide⟩
theorem LF(h:vW w 0 sb so C T made kept kv)(hk:kept.length<=1000)(hmd:made<=1000000000000000)(k:Nat)(v:Vr)(hv:kept[k]? =some v)(hp:0<v.pins)(hd:∀j u,kept[j]? =some u->u.num=v.num->j=k)(hn:∀v∈kept,v.num<=1000000000000000/\v.pins<=1000000000000000):
 Calls prog 188 #[.pointer (some ⟨sb,so,none⟩),.int .i64 v.num] w λx w'=>x= .returned (.agg (ax v.now).toArray)/\UF w w' 0 sb so C T kv (DU made kept k v):=by
 obtain⟨ds,hds,eY⟩:=eT
 have abZ:((w.alloc (.cells aW 95)).alloc (.cells aW 95)).heap[w.heap.size]? =some (.cells aW 95):=by
  rw[Below.heap_alloc _ _ _ (by simp)];exact heap_alloc_new _ _
 have agO:((w.alloc (.cells aW 95)).alloc (.cells aW 95)).heap[w.heap.size+1]? =some (.cells aW 95):=heap_alloc2_new w _ _;have K1:Kp (λ_=>False) w ((w.alloc (.cells aW 95)).alloc (.cells aW 95)):=((Kp.refl _ _).alloc _).alloc _;have h1:=h.ai K1;have hkl:=(List.getElem?_eq_some_iff.1 hv).1;obtain⟨g,cap,sJ⟩:=h.rowAt (by omega)
 have hgb:kv.ownBlock=some g:=by rw[sJ];rfl
 have akG:=lt_of_block h.blk
 have hgl:g<w.heap.size:=by
  obtain⟨cur,hc⟩:=br h.row hgb;exact lt_of_block hc
 have hgs:sb≠g:=by intro e;subst e;exact h.XZ hgb
 have hvw:=h.wf v (List.mem_of_getElem? hv);have sI:=fG hvw;have sS:=gz hvw;have sO:=j3 v.now
 have sI':(prog.info? 95).map (·.size)=some (ax v.now).length:=by rw[bE hvw];exact bV
 have hvn:=hn v (List.mem_of_getElem? hv);have HH:=hid (ae h (ae hn (ae hd (ae K1 hv))));have HR:=hid abZ;clear h hn hd abZ
 go_enter func188,ntmps188
 go_upto_region 2 with(fail)
 have hsz1:w.heap.size+2<=((w.alloc (.cells aW 95)).alloc (.cells aW 95)).heap.size:=by simp
 generalize (w.alloc (.cells aW 95)).alloc (.cells aW 95)=w1 at*
 go_wp2_with fail
 go_loopw [6] (λiv wr=>∃i:Nat,iv= .int .i64 i/\i<=kept.length/\vW wr 0 sb so C T made (vK kept k v i) kv/\wr.heap[w.heap.size+1]? =some (.cells (ax (CM k v i)).toArray 95 (0,0))/\Kp (λj=>j=g\/j=w.heap.size+1) w1 wr) (λiv _=>kept.length-(intOf iv).toNat)
 case atStart=>exact⟨0,rfl,Nat.zero_le _,by unfold vK;rw[if_pos (Nat.zero_le _)];exact h1,by unfold CM;rw[if_pos (Nat.zero_le _)];exact agO,Kp.refl _ _⟩
 case round=>
  obtain⟨i,rfl,hil,hr,hnb,KW⟩:=hrel;have x1:=hr.x1;have hlen:=Yf kept k v i
  by_cases hlt:i<kept.length
  ·have hlt':(i:Int)<(kept.length:Int):=by omega
   rw[sJ]at x1
   by_cases hik:i=k
   ·subst hik
    have e1:vK kept i v i=kept:=by unfold vK;rw[if_pos (Nat.le_refl _)]
    have e2:vK kept i v (i+1)=kept.set i {v with pins:=v.pins-1}:=by unfold vK;rw[if_neg (by omega)]
    have e3:CM i v i=vJ:=by unfold CM;rw[if_pos (Nat.le_refl _)]
    have e4:CM i v (i+1)=v.now:=by unfold CM;rw[if_neg (by omega)]
    rw[e1]at hr;rw[e3]at hnb;have y0:wr.cell? ⟨g,i*38,none⟩=some (.int .i64 v.num):=hr.cells sJ HH.out.2.2.2.2 0 _ (xy v);have y37:=hr.cells sJ HH.out.2.2.2.2 37 _ (CI hvw);have hrr:=hr.row;rw[sJ]at hrr
    have hf:wr.frozen? ⟨g,i*38+37,none⟩=false:=by
     obtain⟨cur,Ji⟩:=br hrr (k:=g) rfl;simp[World.frozen?,Ji]
    have ho2:=tW hrr (i*38+37) (.int .i64 ((v.pins:Int)-1));have K6:Kp (λj=>j=g) wr (wr.setCell ⟨g,i*38+37,none⟩ (.int .i64 ((v.pins:Int)-1))):=(Kp.refl (λj=>j=g) wr).setCell (p:=⟨g,i*38+37,none⟩) (λ_=>rfl) _;have hb6:=K6.at_ hr.blk hgs;have akH:=K6.at_ hnb (by omega)
    have ep:((v.pins-1:Nat):Int)=(v.pins:Int)-1:=by omega
    have yz:vW (wr.setCell ⟨g,i*38+37,none⟩ (.int .i64 ((v.pins:Int)-1))) 0 sb so C T made (kept.set i {v with pins:=v.pins-1}) kv:=by
     refine⟨hb6,hr.c0,hr.c1,?_,?_,hr.ne⟩
     ·rw[sJ,List.length_set]
      have e:=CK sF 38 kept i v {v with pins:=v.pins-1} 37 (.int .i64 ((v.pins:Int)-1)) (λa ha=>rN (hr.wf a ha)) HH.out.2.2.2.2 (by omega) (by rw[<-ep];exact QW hvw (v.pins-1));unfold gh at ho2⊢;rw[e]at ho2;exact ho2
     intro a ha
     rcases List.mem_or_eq_of_mem_set ha with ha|rfl
     ·exact hr.wf a ha
     exact hvw
    have K7:=KW.trans' K6 (λj _ x=>.inl x);have x6:=yz.x1;rw[sJ]at x6
    have hcs:∀j u,(ax v.now)[j]? =some u->(wr.setCell ⟨g,i*38+37,none⟩ (.int .i64 ((v.pins:Int)-1))).cell? ⟨g,i*38+1+j,none⟩=some u:=by
     intro j u hj;have hj2:=QX (v:={v with pins:=v.pins-1}) j u hj;have:=yz.cells (k:=i) (v:={v with pins:=v.pins-1}) (by rw[sJ,List.length_set]) (by rw[List.getElem?_set_self (by omega)]) (1+j) u hj2;rw[Nat.add_assoc];exact this
    have HN:=hid (ae yz (ae akH K7));clear ho2 hrr K6 hb6 hnb KW hr
    go_upto_region 7 with(fail)
    generalize wr.setCell ⟨g,i*38+37,none⟩ (.int .i64 ((v.pins:Int)-1))=w6 at*;have uY:=HN.out.1;have KR:Kp (λj=>j=w.heap.size+1) w6 (w6.setRow (w.heap.size+1) (ax v.now).toArray):=(Kp.refl (λj=>j=w.heap.size+1) w6).setRow (λ_=>rfl) _
    have agP:vW (w6.setRow (w.heap.size+1) (ax v.now).toArray) 0 sb so C T made (kept.set i {v with pins:=v.pins-1}) kv:=
     ⟨KR.at_ uY.blk (by omega),uY.c0,uY.c1,KR.owns uY.row (λj e x=>by rw[hgb]at e;simp at e;omega),uY.wf,uY.ne⟩
    have ab0:=setRow_heap w6 (w.heap.size+1) _ (ax v.now).toArray 95 (0,0) HN.out.2.1;have tF:=HN.out.2.2.trans' KR (λj _ x=>.inr x);have akI:w6.heap[w.heap.size+1]? =some (.cells (ax vJ).toArray 95 (0,0)):=HN.out.2.1;have HF:=hid (ae agP (ae ab0 tF));clear uY KR agP ab0 tF HN sJ;generalize ye:(ax v.now)=SL at*;have Nf:=hid ye;clear ye
    go_wp2_with (first|refine aY rfl 95 (.tmp 43) rfl g (i*38+1) rfl SL ds hcs hds eY sI' ?_|refine wpList_store_row rfl 95 (.tmp 5) (.tmp 44) rfl (w.heap.size+1) SL.toArray rfl rfl 95 (ax vJ).toArray akI sI (by rw[sS];rfl) sO ?_)
    go_roundw
    case rel=>exact⟨i+1,by go_num,by omega,by rw[e2];exact HF.out.1,by rw[e4,Nf.out];exact HF.out.2.1,HF.out.2.2⟩
    case measure=>simp[intOf];omega
   obtain⟨u,hu⟩:∃u,kept[i]? =some u:=⟨_,List.getElem?_eq_getElem hlt⟩
   have hat:=(aaY (kept:=kept) (k:=k) (v:=v) hik).trans hu;have y0:wr.cell? ⟨g,i*38,none⟩=some (.int .i64 u.num):=hr.cells (by rw[hlen];exact sJ) hat 0 _ (xy u)
   have hne:((u.num:Int)==(v.num:Int))=false:=by
    have:u.num≠v.num:=λe=>hik (HH.out.2.2.1 i u hu e)
    simp;omega
   have e2:vK kept k v (i+1)=vK kept k v i:=by
    unfold vK
    by_cases h:i<=k
    ·rw[if_pos h,if_pos (by omega)]
    rw[if_neg h,if_neg (by omega)]
   have e4:CM k v (i+1)=CM k v i:=by
    unfold CM
    by_cases h:i<=k
    ·rw[if_pos h,if_pos (by omega)]
    rw[if_neg h,if_neg (by omega)]
   have HF:=hid (ae hr (ae hnb KW));have HE:=hid (ae e2 e4);clear hr hnb KW sJ hat hu e2 e4 hlen
   go_wp2_with fail
   go_roundw
   case rel=>exact⟨i+1,by go_num,by omega,by rw[HE.out.1];exact HF.out.1,by rw[HE.out.2];exact HF.out.2.1,HF.out.2.2⟩
   case measure=>simp[intOf];omega
  have hlt':¬(i:Int)<(kept.length:Int):=by omega
  obtain rfl:i=kept.length:=by omega
  rw[sJ]at x1
  have e1:vK kept k v kept.length=kept.set k {v with pins:=v.pins-1}:=by unfold vK;rw[if_neg (by omega)]
  have e3:CM k v kept.length=v.now:=by unfold CM;rw[if_neg (by omega)]
  rw[e1]at hr;rw[e3]at hnb
  have ET:=hid (Ly _ hr (Nat.zero_le _) (by simp;omega) (by omega) (by
   intro u hu
   rcases List.mem_or_eq_of_mem_set hu with hu|rfl
   ·exact HH.out.2.1 u hu
   have:=HH.out.2.1 v (List.mem_of_getElem? hv);simp only;omega))
  have HF:=hid (ae hnb KW);have hws:w1.heap.size<=wr.heap.size:=KW.size;clear hnb KW hr e1 e3 sJ hlen
  go_wp2_with fail
  refine hm ET ?_;rintro x JJ ⟨rfl,kq,q1,q2,q3,q4⟩;have agQ:=q4.at_ HF.out.1 (by omega);have hr0:w1.heap[w.heap.size]? =some (.cells aW 95 (0,0)):=HR.out;have agR:=q4.at_ (HF.out.2.at_ hr0 (by omega)) (by omega);have KA:Kp (λj=>j=sb\/kv.ownBlock=some j) w JJ:=((HH.out.2.2.2.1.mono (λ_ _ x=>x.elim)).trans' HF.out.2 (λj hj x=>x.elim (λx=>.inr (by rw[x];exact hgb)) (λx=>by omega))).trans' q4 (λj _ x=>.inl x);have KB:=KA.setRow (g:=w.heap.size) (λx=>by omega) (ax v.now).toArray;have KR:Kp (λj=>j=w.heap.size) JJ (JJ.setRow w.heap.size (ax v.now).toArray):=(Kp.refl (λj=>j=w.heap.size) JJ).setRow (λ_=>rfl) _;have q1':=KR.at_ q1 (by omega);have q2':=KR.owns q2 (λj e x=>by have:=q3 j e;omega);have ir:=setRow_heap JJ w.heap.size _ (ax v.now).toArray 95 (0,0) agR;have HG:=hid (ae q1' (ae q2' (ae (λj e=>Nat.le_trans (show w.heap.size<=wr.heap.size by omega) (q3 j e)) KB)));clear q1 q2 q3 q4 q1' q2' KA KB KR ET HF;generalize ye:(ax v.now).toArray=SA at*
  go_wp2_with (first|refine wpList_load_row rfl 95 (.tmp 5) rfl (w.heap.size+1) rfl 95 SA (0,0) ds agQ hds (by cases ds<;>first|rfl|exact absurd eY (by simp[ak])) sI ?_|refine wpList_store_row rfl 95 (.tmp 4) (.tmp 47) rfl w.heap.size SA rfl rfl 95 aW agR sI (by rw[sS];rfl) sO ?_)
  refine bodyPost_ret (results_cell_row rfl _ _ w.heap.size 95 SA (0,0) ds rfl ir hds (by cases ds<;>first|rfl|exact absurd eY (by simp[ak])) sI) rfl ?_;exact⟨by rw[ye],kq,HG.out.1,HG.out.2.1,HG.out.2.2.1,HG.out.2.2.2⟩
end
namespace Ch
structure Rp where
 err:Int
 ia:Int
 idx:Int
 next:Int
 st:As
 text:ByteArray
def dR:Rp:=⟨0,0,0,0,dX,⟨#[]⟩⟩
def fB:Tk:=⟨0,⟨#[]⟩,0,false,0,0,vJ,⟨#[]⟩,0,0⟩
def j1(x:Sv)(s:Sd)(out:ByteArray):Sv:=
 {x with made:=x.made+1,kept:=kJ (x.made+1) (x.kept++[⟨x.made,s,0⟩]),joined:=x.joined+out.size,tail:=CJ x.tail out}
end Ch
def bW(r:Rp):Array Value:=#[.int .i64 r.err,.int .i64 r.ia,.int .i64 r.idx,.int .i64 r.next,.string r.st.act,.string r.st.past,.string r.st.tm,.int .i64 r.st.x,.int .i64 r.st.y,.int .i64 r.st.z,.string r.text]
def DV(t:Tk):List Value:=[.int .i64 t.kind,.string t.events,.int .i64 t.at_,.bool t.drawn,.int .i64 t.ticket,.int .i64 t.fired]
def Y5(t:Tk):List Value:=[.string t.out,.int .i64 t.steps,.int .i64 t.pinned]
def js(t:Tk):List Value:=DV t++(ax t.now++Y5 t)
def cB(l:List Tk):List Value:=l.flatMap js
theorem eH{t:Tk}(h:t.now.Wf):(js t).length=45:=by simp[js,DV,Y5,bE h]
theorem LG:(js fB).toArray=xw:=rfl
theorem lY{t:Tk}(h:t.now.Wf)(j:Nat):(js t)[42+j]? =(Y5 t)[j]?:=by
 unfold js;rw[List.getElem?_append_right (by simp[DV];omega),List.getElem?_append_right (by simp[DV,bE h];omega)]
 congr 1
 simp[DV,bE h];omega
theorem tX{t t':Tk}(h:t.now.Wf)(e1:DV t'=DV t)(e2:t'.now=t.now)(j:Nat)(v:Value)(e3:Y5 t'=(Y5 t).set j v):js t'=(js t).set (42+j) v:=by
 unfold js;rw[e1,e2,e3,List.set_append_right _ _ (by simp[DV];omega),List.set_append_right _ _ (by simp[DV,bE h];omega)]
 congr 3
 simp[DV,bE h];omega
theorem tY{t t':Tk}(e1:Y5 t'=Y5 t)(e2:t'.now=t.now)(j:Nat)(hj:j<6)(v:Value)(e3:DV t'=(DV t).set j v):js t'=(js t).set j v:=by
 unfold js;rw[e1,e2,e3,List.set_append_left _ _ (by simp[DV];omega)]
theorem QY{t:Tk}:∀j u,(ax t.now)[j]? =some u->(js t)[6+j]? =some u:=by
 intro j u h;unfold js;rw[List.getElem?_append_right (by simp[DV]),List.getElem?_append_left (by simp[DV];exact(List.getElem?_eq_some_iff.1 h).1)];simp[DV];exact h
theorem vL{t t':Tk}(h:t.now.Wf)(h':t'.now.Wf)(e1:DV t'=DV t)(e2:Y5 t'=Y5 t):js t'=(js t).take 6++ax t'.now++(js t).drop (6+(ax t'.now).length):=by
 have h6:(DV t).length=6:=by simp[DV]
 unfold js;rw[e1,e2,bE h',List.take_left' h6,List.drop_append,h6,List.drop_of_length_le (by omega),List.nil_append,show 6+36-6=36 from rfl,List.drop_left' (bE h),List.append_assoc]
theorem Ih(t:Tk):∀u∈js t,u.oneCell'=true:=by
 intro u hu;unfold js at hu
 rcases List.mem_append.1 hu with hu|hu
 ·simp only[DV,List.mem_cons,List.not_mem_nil,or_false]at hu
  rcases hu with rfl|rfl|rfl|rfl|rfl|rfl<;>rfl
 rcases List.mem_append.1 hu with hu|hu
 ·exact qQ _ u hu
 simp only[Y5,List.mem_cons,List.not_mem_nil,or_false]at hu
 rcases hu with rfl|rfl|rfl<;>rfl
theorem fC(r:Rp):(bW r).all (λx=>x.oneCell')=true:=by
 apply Array.all_eq_true_iff_forall_mem.2;intro x hx;simp only[bW,List.mem_toArray,List.mem_cons,List.not_mem_nil,or_false]at hx
 rcases hx with rfl|rfl|rfl|rfl|rfl|rfl|rfl|rfl|rfl|rfl|rfl<;>rfl
theorem bK:(prog.info? 64).map (·.size)=some 11:=by kernel_rfl
theorem vf:∃d,prog.underlying 64=some d/\ak d=true:=⟨_,underlying64,rfl⟩
theorem Pw:(prog.info? 173).map (·.size)=some 45:=by kernel_rfl
theorem agS:∃d,prog.underlying 173=some d/\ak d=true:=⟨_,underlying173,rfl⟩
theorem ad0:(prog.info? 173).map (λi=>(i.zero,i.size,i.bytes))=some (some (.agg xw),45,160):=by kernel_rfl
structure Pc where
 a:Value
 b:Value
 c:Value
 d:Value
 e:Value
def sM(pc:Pc)(x:Sv)(kv:Value)(tb:Nat):Array Value:=
 #[pc.a,pc.b,pc.c,pc.d,pc.e,.int .i64 x.made,kv,.int .i64 x.joined,.string x.tail,.slice (some ⟨tb,0,none⟩) x.tasks.length x.tasks.length,.int .i64 x.bA,.int .i64 x.turn]
structure dT(w:World)(xb tb:Nat)(T:TypeId)(pc:Pc)(ol:Ol)(x:Sv)(kv:Value):Prop where
 blk:w.heap[xb]? =some (.cells (sM pc x kv tb) T (0,0))
 row:w.ownsRow 0 261 38 kv x.kept.length (gh x.kept)
 rX:w.heap[tb]? =some (.cells (cB x.tasks).toArray 173 (0,0))
 wf:∀v∈x.kept,v.now.Wf
 tw:∀t∈x.tasks,t.now.Wf
 ty:T=136\/T=138
 pl:∃B lt lb,AB w B ol pc.c pc.d pc.e lt lb
def oN(xb tb:Nat)(kv:Value)(k:Nat):Prop:=k=xb\/k=tb\/kv.ownBlock=some k
def gL(w w':World)(xb tb:Nat)(T:TypeId)(pc:Pc)(ol:Ol)(kv:Value)(x':Sv):Prop:=
 ∃kq,dT w' xb tb T pc ol x' kq/\(∀k,kq.ownBlock=some k->kv.ownBlock=some k\/w.heap.size<=k)/\Kp (oN xb tb kv) w w'
def Yg(e:TypeId):Prop:=e=155\/e=209\/e=282\/e=255
theorem AB.dG{w w':World}{S:Nat->Prop}{B:Nat}{ol:Ol}{sv tv bv:Value}{lt:List (Tr×Value)}{lb:List (Bl×Value)}(F:AB w B ol sv tv bv lt lb)(k:Kp S w w')
 (hs:∀i cur e,w.heap[i]? =some (.cells cur e (0,0))->Yg e->¬S i):AB w' B ol sv tv bv lt lb:=by
 have hS:∀{base e size v n xs},w.ownsRow base e size v n xs->Yg e->∀i,v.ownBlock=some i->¬S i:=by
  intro base e size v n xs ho he i hi;obtain⟨cur,hc⟩:=br ho hi;exact hs i cur e hc he
 exact⟨k.owns F.ag (hS F.ag (.inl rfl)),F.Iw,k.owns F.bG (hS F.bG (.inr (.inl rfl))),λx hx=>k.owns (F.iX x hx) (hS (F.iX x hx) (.inr (.inr (.inr rfl)))),
  F.Mj,k.owns F.dz (hS F.dz (.inr (.inr (.inl rfl)))),λx hx=>k.owns (F.rh x hx) (hS (F.rh x hx) (.inr (.inr (.inr rfl))))⟩
section
variable {w w':World} {xb tb:Nat} {T:TypeId} {pc:Pc} {ol:Ol} {x:Sv} {kv:Value}
theorem dT.Yh(h:dT w xb tb T pc ol x kv):T≠261/\T≠173/\T≠95/\¬Yg T:=by
 rcases h.ty with rfl|rfl<;>exact⟨by decide,by decide,by decide,by unfold Yg;decide⟩
theorem dT.shelf(h:dT w xb tb T pc ol x kv):vW w 0 xb 5 (sM pc x kv tb) T x.made x.kept kv:=⟨h.blk,rfl,rfl,h.row,h.wf,h.Yh.1⟩
theorem dT.neT(h:dT w xb tb T pc ol x kv):xb≠tb:=by
 intro e;have h1:=h.blk;rw[e,h.rX]at h1;simp only[Option.some.injEq,Obj.cells.injEq]at h1;exact h.Yh.2.1 h1.2.1.symm
theorem dT.kvX(h:dT w xb tb T pc ol x kv):kv.ownBlock≠some xb:=own_ne h.row h.blk h.Yh.1.symm
theorem dT.kvT(h:dT w xb tb T pc ol x kv):kv.ownBlock≠some tb:=own_ne h.row h.rX (by decide)
theorem dT.plS(h:dT w xb tb T pc ol x kv)(K:Kp (oN xb tb kv) w w'):∃B lt lb,AB w' B ol pc.c pc.d pc.e lt lb:=by
 obtain⟨B,lt,lb,F⟩:=h.pl;refine⟨B,lt,lb,F.dG K ?_⟩;intro i cur e hi he hS
 rcases hS with rfl|rfl|hk
 ·rw[h.blk]at hi;simp only[Option.some.injEq,Obj.cells.injEq]at hi;exact h.Yh.2.2.2 (by rw[hi.2.1];exact he)
 ·rw[h.rX]at hi;simp only[Option.some.injEq,Obj.cells.injEq]at hi;rw[<-hi.2.1]at he;revert he;unfold Yg;decide
 obtain⟨cur',hc⟩:=br h.row hk;rw[hc]at hi;simp only[Option.some.injEq,Obj.cells.injEq]at hi;rw[<-hi.2.1]at he;revert he;unfold Yg;decide
theorem dT.keep{S:Nat->Prop}(h:dT w xb tb T pc ol x kv)(K:Kp S w w')(h1:¬S xb)(h2:¬S tb)(h3:∀k,kv.ownBlock=some k->¬S k)(h4:∀i cur e,w.heap[i]? =some (.cells cur e (0,0))->Yg e->¬S i):dT w' xb tb T pc ol x kv:=by
 obtain⟨B,lt,lb,F⟩:=h.pl;exact⟨K.at_ h.blk h1,K.owns h.row h3,K.at_ h.rX h2,h.wf,h.tw,h.ty,B,lt,lb,F.dG K h4⟩
theorem dT.ai(h:dT w xb tb T pc ol x kv)(K:Kp (λ_=>False) w w'):dT w' xb tb T pc ol x kv:=h.keep K (λx=>x) (λx=>x) (λ_ _ x=>x) (λ_ _ _ _ _ x=>x)
theorem dT.plan(h:dT w xb tb 138 pc ol x kv):Pl w xb 0 ol:=by
 obtain⟨B,lt,lb,F⟩:=h.pl;exact⟨pc.c,pc.d,pc.e,lt,lb,B,_,_,⟨h.blk,.inr (.inr rfl),rfl,rfl,rfl⟩,F⟩
theorem dT.cell(h:dT w xb tb T pc ol x kv)(j:Nat):w.cell? ⟨xb,j,none⟩=(sM pc x kv tb)[j]?:=by rw[World.cell?,h.blk];rfl
theorem dT.free(h:dT w xb tb T pc ol x kv)(j:Nat):w.frozen? ⟨xb,j,none⟩=false:=by simp[World.frozen?,h.blk]
theorem dT.FJ(h:dT w xb tb T pc ol x kv)(j:Nat):w.frozen? ⟨tb,j,none⟩=false:=by simp[World.frozen?,h.rX]
theorem dT.gW(h:dT w xb tb T pc ol x kv){u:Nat}{t:Tk}(hu:x.tasks[u]? =some t){j:Nat}(hj:j<45):w.cell? ⟨tb,u*45+j,none⟩=(js t)[j]?:=by
 rw[hY h.rX];exact jP js 45 x.tasks u t j (λa ha=>eH (h.tw a ha)) hu hj
theorem dT.tWf(h:dT w xb tb T pc ol x kv){u:Nat}{t:Tk}(hu:x.tasks[u]? =some t):t.now.Wf:=h.tw t (List.mem_of_getElem? hu)
theorem dT.tasks(h:dT w xb tb T pc ol x kv){u:Nat}{t':Tk}(hw:t'.now.Wf)(K:Kp (λk=>k=tb) w w')(hb:w'.heap[tb]? =some (.cells (cB (x.tasks.set u t')).toArray 173 (0,0))):
 dT w' xb tb T pc ol {x with tasks:=x.tasks.set u t'} kv:=by
 refine⟨?_,K.owns h.row (λk e x=>h.kvT (by rw[<-x];exact e)),hb,h.wf,?_,h.ty,h.plS (K.mono (λ_ _ x=>.inr (.inl x)))⟩
 ·have:=K.at_ h.blk h.neT
  rw[this];simp[sM]
 intro t ht
 rcases List.mem_or_eq_of_mem_set ht with ht|rfl
 ·exact h.tw t ht
 exact hw
theorem dT.Yi(h:dT w xb tb T pc ol x kv){u:Nat}{t t':Tk}(hu:x.tasks[u]? =some t)(hw:t'.now.Wf)(j:Nat)(hj:j<45)(v:Value)(ht:js t'=(js t).set j v):
 dT (w.setCell ⟨tb,u*45+j,none⟩ v) xb tb T pc ol {x with tasks:=x.tasks.set u t'} kv:=by
 refine h.tasks hw ((Kp.refl (λk=>k=tb) w).setCell (p:=⟨tb,u*45+j,none⟩) (λ_=>rfl) _) ?_;rw[ah _ h.rX]
 congr 2
 have:=CK js 45 x.tasks u t t' j v (λa ha=>eH (h.tw a ha)) hu hj ht;unfold cB;rw[<-this,List.setIfInBounds_toArray]
theorem dT.agW(h:dT w xb tb T pc ol x kv){u:Nat}{t t':Tk}(hu:x.tasks[u]? =some t)(hw:t'.now.Wf)(j:Nat)(l:List Value)(hj:j+l.length<=45)(ht:js t'=(js t).take j++l++(js t).drop (j+l.length)):
 dT (w.setRow tb (putAt (cB x.tasks).toArray (u*45+j) l)) xb tb T pc ol {x with tasks:=x.tasks.set u t'} kv:=by
 refine h.tasks hw ((Kp.refl (λk=>k=tb) w).setRow (λ_=>rfl) _) ?_;rw[setRow_heap w tb _ _ 173 (0,0) h.rX]
 congr 2
 exact FH js 45 x.tasks u t t' j l (λa ha=>eH (h.tw a ha)) hu hj ht
theorem dT.LH(h:dT w xb tb T pc ol x kv):(cB x.tasks).toArray.size=x.tasks.length*45:=by
 simp only[List.size_toArray];exact tV js 45 x.tasks (λa ha=>eH (h.tw a ha))
theorem dT.own(h:dT w xb tb T pc ol x kv){x':Sv}(hk:x'.kept=x.kept)(ht:x'.tasks=x.tasks)(K:Kp (λk=>k=xb) w w')(hb:w'.heap[xb]? =some (.cells (sM pc x' kv tb) T (0,0))):dT w' xb tb T pc ol x' kv:=by
 refine⟨hb,by rw[hk];exact K.owns h.row (λk e x=>h.kvX (by rw[<-x];exact e)),by rw[ht];exact K.at_ h.rX h.neT.symm,by rw[hk];exact h.wf,by rw[ht];exact h.tw,h.ty,h.plS (K.mono (λ_ _ x=>.inl x))⟩
theorem dT.Yj(h:dT w xb tb T pc ol x kv){x':Sv}(hk:x'.kept=x.kept)(ht:x'.tasks=x.tasks)(j:Nat)(v:Value)(he:(sM pc x kv tb).setIfInBounds j v=sM pc x' kv tb):dT (w.setCell ⟨xb,j,none⟩ v) xb tb T pc ol x' kv:=by
 refine h.own hk ht ((Kp.refl (λk=>k=xb) w).setCell (p:=⟨xb,j,none⟩) (λ_=>rfl) _) ?_;rw[ah _ h.blk,he]
theorem gL.refl(h:dT w xb tb T pc ol x kv):gL w w xb tb T pc ol kv x:=⟨kv,h,λ_ e=>.inl e,Kp.refl _ _⟩
theorem gL.of(h:dT w' xb tb T pc ol x kv)(K:Kp (oN xb tb kv) w w'):gL w w' xb tb T pc ol kv x:=⟨kv,h,λ_ e=>.inl e,K⟩
theorem gL.trans{w'':World}{x':Sv}{kq:Value}(K:Kp (oN xb tb kv) w w')(hk:∀k,kq.ownBlock=some k->kv.ownBlock=some k\/w.heap.size<=k)(q:gL w' w'' xb tb T pc ol kq x'):gL w w'' xb tb T pc ol kv x':=by
 obtain⟨kv2,h2,n2,K2⟩:=q;refine⟨kv2,h2,?_,K.trans' K2 ?_⟩
 ·intro k e
  rcases n2 k e with e'|e'
  ·exact hk k e'
  exact .inr (Nat.le_trans K.size e')
 intro i hi s
 rcases s with s|s|s
 ·exact .inl s
 ·exact .inr (.inl s)
 rcases hk i s with e|e
 ·exact .inr (.inr e)
 omega
theorem dT.aaZ(h:dT w xb tb T pc ol x kv){kept':List Vr}(K:Kp (λk=>kv.ownBlock=some k) w w')(hs:vW w' 0 xb 5 (sM pc x kv tb) T x.made kept' kv):dT w' xb tb T pc ol {x with kept:=kept'} kv:=
 ⟨hs.blk,hs.row,K.at_ h.rX h.kvT,hs.wf,h.tw,h.ty,h.plS (K.mono (λ_ _ x=>.inr (.inr x)))⟩
theorem dT.setOther(h:dT w xb tb T pc ol x kv){g:Nat}{c:Array Value}{e:TypeId}(hg:w.heap[g]? =some (.cells c e (0,0)))(he:e=64\/e=95)(cs:Array Value):dT (w.setRow g cs) xb tb T pc ol x kv:=by
 have hT:e≠T:=by rcases he with rfl|rfl<;>rcases h.ty with rfl|rfl<;>decide
 have hV:e≠261:=by rcases he with rfl|rfl<;>decide
 have hK:e≠173:=by rcases he with rfl|rfl<;>decide
 have ne:∀{b:Nat} {c':Array Value} {e':TypeId},w.heap[b]? =some (.cells c' e' (0,0))->e≠e'->b≠g:=by
  intro b c' e' hb hne hbg;rw[hbg,hg]at hb;simp only[Option.some.injEq,Obj.cells.injEq]at hb;exact hne hb.2.1
 refine h.keep (S:=λk=>k=g) ((Kp.refl (λk=>k=g) w).setRow (λ_=>rfl) _) (ne h.blk hT) (ne h.rX hK) ?_ ?_
 ·intro k ek
  obtain⟨cur,hc⟩:=br h.row ek;exact ne hc hV
 intro i cur e' hi ho;refine ne hi ?_;intro x;subst x
 revert ho
 unfold Yg
 rcases he with rfl|rfl<;>decide
theorem dT.low(h:dT w xb tb T pc ol x kv):∀k,oN xb tb kv k->k<w.heap.size:=by
 rintro k (rfl|rfl|e)
 ·exact lt_of_block h.blk
 ·exact lt_of_block h.rX
 obtain⟨cur,hc⟩:=br h.row e;exact lt_of_block hc
theorem gL.at_{x':Sv}(q:gL w w' xb tb T pc ol kv x'){n:Nat}(hl:∀k,oN xb tb kv k->k<n){o:Obj}(ho:w.heap[n]? =some o):w'.heap[n]? =some o:=by
 obtain⟨kq,h4,n4,K4⟩:=q;exact K4.at_ ho (λs=>by have:=hl n s;omega)
theorem gL.jE{w'':World}{x':Sv}(K:Kp (oN xb tb kv) w w')(q:gL w' w'' xb tb T pc ol kv x'){c:Array Value}(hn:w''.heap[w.heap.size]? =some (.cells c 64 (0,0)))(cs:Array Value):gL w (w''.setRow w.heap.size cs) xb tb T pc ol kv x':=by
 obtain⟨kq,h4,n4,K4⟩:=q;exact⟨kq,h4.setOther hn (.inl rfl) cs,λk e=>(n4 k e).imp id (Nat.le_trans K.size),(K.trans' K4 (λ_ _ s=>s)).setRow (λx=>by omega) cs⟩
end
namespace Ch
structure Sv.Bd(x:Sv):Prop where
 made:x.made<=100000000000000
 LI:x.kept.length<=1000
 nums:∀v∈x.kept,v.num<=1000000000000000/\v.pins<=1000000000000000
 joined:x.joined<=8000000000000000000
 tail:x.tail.size<=24
 tj:x.tail.size<=x.joined
 tick:x.bA<=1000000000000000
 turn:x.turn<=1000000000000000
 tasks:x.tasks.length<=6
def ib(x:Sv)(e:Int):Rp:={dR with err:=e,ia:=(x.made:Int)-1}
def qU(x:Sv)(a:Int):Rp:=
 if(gu x.joined x.tail a).2 !=0 then ib x (gu x.joined x.tail a).2
 else {dR with ia:=(x.made:Int)-1,next:=a+((gu x.joined x.tail a).1.size:Int),text:=(gu x.joined x.tail a).1}
end Ch
section
variable (w:World) {xb tb:Nat} {T:TypeId} {pc:Pc} {ol:Ol} {x:Sv} {kv:Value}
theorem tZ(h:dT w xb tb T pc ol x kv)(hbd:x.Bd)(s:Sd)(hs:s.Wf)(out:ByteArray)(ho:out.size<=10000000000):
 Calls prog 135 #[.pointer (some ⟨xb,0,none⟩),.agg (ax s).toArray,.string out] w λr w'=>r= .returned (.tuple #[])/\gL w w' xb tb T pc ol kv (j1 x s out):=by
 obtain⟨ds,hds,eY⟩:=eT;have hnb:=heap_alloc_new w (.cells (ax s).toArray 95);have K1:Kp (λ_=>False) w (w.alloc (.cells (ax s).toArray 95)):=(Kp.refl _ _).alloc _;have h1:=h.ai K1
 have hsI:(prog.info? 95).map (·.size)=some (ax s).toArray.size:=by rw[show(ax s).toArray.size=36 by simp[bE hs]];exact bV
 have EA:=hid (UC (w.alloc (.cells (ax s).toArray 95)).drew (h1.ai ((Kp.refl _ _).drewN 1)).shelf (Nat.zero_le _) hbd.LI hbd.made hbd.nums h.Yh.2.2.1 s hs);have hxs:=lt_of_block h.blk;have hts:=lt_of_block h.rX
 have hks:∀k,kv.ownBlock=some k->k<w.heap.size:=λk e=>by
  obtain⟨cur,hc⟩:=br h.row e;exact lt_of_block hc
 have HH:=hid (ae h (ae hbd K1));clear h;generalize ye:(ax s).toArray=SA at*;clear ye
 go_enter func135,ntmps135
 go_upto_region 1 with(fail)
 generalize w.alloc (.cells SA 95)=w1 at*;have hS0:w1.drew.heap[w.heap.size]? =some (.cells SA 95 (0,0)):=hnb;refine az (λw'=>w'.heap[w.heap.size]? =some (.cells SA 95 (0,0))) (by kernel_rfl) ?_;refine aU 0 6 (.pointer (some ⟨xb,0,none⟩)) hS0 ?_;refine aU 1 7 (.pointer (some ⟨xb,0,none⟩)) hS0 ?_;refine aU 2 8 (.pointer (some ⟨xb,5,none⟩)) hS0 ?_;refine dM 3 9 (.agg SA) rfl (λw' hS=>bu 95 (.tmp 4) rfl w.heap.size rfl 95 SA (0,0) ds hS hds eY hsI) hS0 ?_;refine jD 4 ?_;refine bS (some 10) rfl 184 #[.pointer (some ⟨xb,5,none⟩),.agg SA] (by simp[execOp,Act.eval,go_sem]) (.tuple #[]) _ EA.out ?_;rintro w2 ⟨kq,q1,q2,q3,q4⟩
 have hS2:w2.heap[w.heap.size]? =some (.cells SA 95 (0,0)):=q4.at_ hS0 (by
  rintro(e|e)
  ·omega
  have:=hks _ e;omega)
 refine⟨hS2,?_⟩;refine wpAnyH_done (by kernel_rfl) (NoPanic.normal ?_) _;have EJ:=hid (Pu w2 (jo:=7) (joined:=x.joined) (tail:=x.tail) q1 (by simp[sM]) (by simp[sM]) out hbd.tail ho hbd.joined);have HQ:=hid (ae q2 (ae q3 q4));clear EA q1 q2 q3 q4 hS2 hS0 hnb h1
 go_wp2_with fail
 refine hm EJ ?_;rintro x3 w3 ⟨rfl,p1,p2⟩;have HP:=hid (ae p1 p2);clear EJ p1 p2
 go_wp2_with fail
 go_end0
 refine⟨rfl,kq,?_⟩;obtain⟨h,hbd,K1⟩:=HH.out;obtain⟨q2,q3,q4⟩:=HQ.out;obtain⟨p1,p2⟩:=HP.out;have KA:Kp (oN xb tb kv) w w2:=((K1.drewN 1).mono (λ_ _ x=>x.elim)).trans' q4 (λi _ s=>s.elim (λs=>.inl s) (λs=>.inr (.inr s)));have KB:Kp (oN xb tb kv) w w3:=KA.trans' p2 (λi _ s=>.inl s)
 have hk':∀k,kq.ownBlock=some k->w.heap.size<=k:=λk e=>Nat.le_trans K1.size (q3 k e)
 refine⟨⟨?_,p2.owns q2 (λk e x=>by have:=hk' k e;omega),?_,?_,h.tw,h.ty,h.plS KB⟩,λk e=>.inr (hk' k e),KB⟩
 ·rw[p1]
  simp[sM,j1]
 ·have K2:Kp (λk=>k=xb\/kv.ownBlock=some k) w w3:=(((K1.drewN 1).mono (λ_ _ x=>x.elim)).trans' q4 (λi _ s=>s)).trans' p2 (λi _ s=>.inl s)
  exact K2.at_ h.rX (by
   rintro(e|e)
   ·exact h.neT e.symm
   exact h.kvT e)
 intro v hv;have hv:=(List.mem_filter.1 hv).1
 rcases List.mem_append.1 hv with hv|hv
 ·exact h.wf v hv
 simp at hv;subst hv;exact hs
theorem xA(h:dT w xb tb T pc ol x kv)(u:Int):
 Calls prog 90 #[.pointer (some ⟨xb,0,none⟩),.int .i64 u] w λr w'=>r= .returned (.bool (decide (0<=u)&&decide (u<(x.tasks.length:Int))))/\w'=w:=by
 have x9:w.cell? ⟨xb,9,none⟩=some (.slice (some ⟨tb,0,none⟩) x.tasks.length x.tasks.length):=h.cell 9;clear h
 by_cases h1:0<=u
 ·by_cases h2:u<(x.tasks.length:Int)
  ·go_enter func90,ntmps90
   go_wp2;go_ret;exact⟨by simp[h1,h2],rfl⟩
  go_enter func90,ntmps90
  go_wp2;go_ret;exact⟨by simp[h2],rfl⟩
 go_enter func90,ntmps90
 go_wp2;go_ret;exact⟨by simp;omega,rfl⟩
theorem Ii(h:dT w xb tb T pc ol x kv)(hk:x.kept.length<=1000):
 Calls prog 85 #[.pointer (some ⟨xb,0,none⟩)] w λr w'=>r= .returned (.slice (some ⟨w.heap.size,0,none⟩) x.kept.length x.kept.length)/\w'.ownsRow w.heap.size 3 1 (.slice (some ⟨w.heap.size,0,none⟩) x.kept.length x.kept.length) x.kept.length (x.kept.map λv=>.int .i64 v.num)/\Kp (λ_=>False) w w':=by
 have E:=hid (LD w h.shelf hk);clear h
 go_enter func85,ntmps85
 go_wp2_with fail
 refine hm E ?_;rintro r w1 ⟨rfl,o1,K1⟩;have HF:=hid (ae o1 K1);clear E o1 K1;go_wp2;go_ret;exact⟨rfl,HF.out.1,HF.out.2⟩
theorem lZ(h:dT w xb tb T pc ol x kv)(hm1:x.made<=1000000000000000)(e:Int):
 Calls prog 190 #[.pointer (some ⟨xb,0,none⟩),.int .i64 e] w λr w'=>r= .returned (.agg (bW (ib x e)))/\Kp (λ_=>False) w w':=by
 obtain⟨dr,hdr,kK⟩:=vf;have K1:Kp (λ_=>False) w (w.alloc (.cells aM 64)):=(Kp.refl _ _).alloc _;have hnew:=heap_alloc_new w (.cells aM 64);have E:=hid (lD _ (h.ai K1).shelf hm1);have ir:=setRow_heap (w.alloc (.cells aM 64)) w.heap.size aM (bW (ib x e)) 64 (0,0) hnew;have KF:=K1.setRow (g:=w.heap.size) (λx=>by omega) (bW (ib x e));clear h
 go_enter func190,ntmps190
 go_upto_region 1 with(fail)
 generalize w.alloc (.cells aM 64)=w1 at*
 go_wp2_with fail
 refine hm E ?_;rintro r w2 ⟨rfl,rfl⟩;clear E
 go_wp2_with (refine wpList_store_row rfl 64 (.tmp 4) (.tmp 10) rfl w.heap.size (bW (ib x e)) rfl rfl 64 aM hnew bK rfl (fC _) ?_)
 refine bodyPost_ret (results_cell_row rfl _ _ w.heap.size 64 (bW (ib x e)) (0,0) dr rfl ir hdr (by cases dr<;>first|rfl|exact absurd kK (by simp[ak])) bK) rfl ?_;exact⟨rfl,KF⟩
end
end Go.Proofs.YtnlbchmfcebeeaaGreat
