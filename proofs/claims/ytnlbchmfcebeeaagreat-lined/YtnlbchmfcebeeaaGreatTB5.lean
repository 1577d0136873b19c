import Derived.Test.YtnlbchmfcebeeaaGreatTC4
set_option maxHeartbeats 12800000
set_option maxRecDepth 100000
namespace Go.Proofs.YtnlbchmfcebeeaaGreat
open Go.Proofs.Tryz Ch
open Go.RowKit
namespace Ch
def holds(s:Sd)(g:Gd):Bool:=
 if g.sign==60 then decide (var s g.var<g.digit)else if g.sign==61 then var s g.var==g.digit else if g.sign==62 then decide (g.digit<var s g.var)else true
def rB(ss:List St)(act:List Bool)(k:Nat):Bool:=has act (k:Int)&&(aA ss k==1||aA ss k==4)
end Ch
section
variable (w:World) (mb ob po:Nat) (s:Sd) (qv ov:Value) (ol:Ol)
theorem RO(g:Gd)(hm:iq w mb ob po s qv ov)(hw:s.Wf):
 Calls prog 255 #[.pointer (some ⟨mb,0,none⟩),.agg #[.int .u8 g.var,.int .u8 g.sign,.int .i64 g.digit]] w λx w'=>x= .returned (.bool (Ch.holds s g))/\Kp (λ_=>False) w w':=by
 have K1:Kp (λ_=>False) w (w.alloc (.cells #[.int .u8 g.var,.int .u8 g.sign,.int .i64 g.digit] 206)):=(Kp.refl _ _).alloc _;have e1:=heap_alloc_new w (.cells #[.int .u8 g.var,.int .u8 g.sign,.int .i64 g.digit] 206);have hm1:iq (w.alloc (.cells #[.int .u8 g.var,.int .u8 g.sign,.int .i64 g.digit] 206)) mb ob po s qv ov:=du.keep hm K1 (λx=>x)
 have c0:(w.alloc (.cells #[.int .u8 g.var,.int .u8 g.sign,.int .i64 g.digit] 206)).cell? ⟨w.heap.size,0,none⟩=some (.int .u8 g.var):=by rw[World.cell?,e1];rfl
 have c1:(w.alloc (.cells #[.int .u8 g.var,.int .u8 g.sign,.int .i64 g.digit] 206)).cell? ⟨w.heap.size,1,none⟩=some (.int .u8 g.sign):=by rw[World.cell?,e1];rfl
 have c2:(w.alloc (.cells #[.int .u8 g.var,.int .u8 g.sign,.int .i64 g.digit] 206)).cell? ⟨w.heap.size,2,none⟩=some (.int .i64 g.digit):=by rw[World.cell?,e1];rfl
 have E1:=hid (ri ((w.alloc (.cells #[.int .u8 g.var,.int .u8 g.sign,.int .i64 g.digit] 206))).drew mb 1 [.pointer (some ⟨ob,po,none⟩)] s [qv,ov] 149 g.var (by exact hm1) hw rfl);have HK:=hid K1.drew;clear hm hm1 e1 K1
 have nv:Ch.holds s g=if g.sign==60 then decide (Ch.var s g.var<g.digit)else if g.sign==61 then Ch.var s g.var==g.digit else if g.sign==62 then decide (g.digit<Ch.var s g.var)else true:=rfl
 cases q1:g.sign==60 with
 |true=>
  rw[show Ch.holds s g=decide (Ch.var s g.var<g.digit)by rw[nv,q1];rfl];clear nv
  go_enter func255,ntmps255
  go_upto_region 1 with(fail)
  generalize (w.alloc (.cells #[.int .u8 g.var,.int .u8 g.sign,.int .i64 g.digit] 206))=w1 at*
  go_region_with (go_at_call 257;refine bH E1 ?_;rintro x w2 ⟨rfl,rfl⟩)
  all_goals
   go_wp2;go_ret;exact⟨rfl,HK.out⟩
 |false=>?_
 cases q2:g.sign==61 with
 |true=>
  rw[show Ch.holds s g=(Ch.var s g.var==g.digit)by rw[nv,q1,q2];rfl];clear nv
  go_enter func255,ntmps255
  go_upto_region 1 with(fail)
  generalize (w.alloc (.cells #[.int .u8 g.var,.int .u8 g.sign,.int .i64 g.digit] 206))=w1 at*
  go_region_with (go_at_call 257;refine bH E1 ?_;rintro x w2 ⟨rfl,rfl⟩)
  all_goals
   go_wp2;go_ret;exact⟨rfl,HK.out⟩
 |false=>?_
 cases q3:g.sign==62 with
 |true=>
  rw[show Ch.holds s g=decide (g.digit<Ch.var s g.var)by rw[nv,q1,q2,q3];rfl];clear nv
  go_enter func255,ntmps255
  go_upto_region 1 with(fail)
  generalize (w.alloc (.cells #[.int .u8 g.var,.int .u8 g.sign,.int .i64 g.digit] 206))=w1 at*
  go_region_with (go_at_call 257;refine bH E1 ?_;rintro x w2 ⟨rfl,rfl⟩)
  all_goals
   go_wp2;go_ret;exact⟨rfl,HK.out⟩
 |false=>?_
 rw[show Ch.holds s g=true by rw[nv,q1,q2,q3];rfl];clear nv
 go_enter func255,ntmps255
 go_upto_region 1 with(fail)
 generalize (w.alloc (.cells #[.int .u8 g.var,.int .u8 g.sign,.int .i64 g.digit] 206))=w1 at*
 go_region_with (go_at_call 257;refine bH E1 ?_;rintro x w2 ⟨rfl,rfl⟩)
 all_goals
  go_wp2;go_ret;exact⟨rfl,HK.out⟩
theorem MY(k:Nat)(hm:iq w mb ob po s qv ov)(hw:s.Wf)(hp:Pl w ob po ol)(hk:k<ol.ag.length):
 Calls prog 173 #[.pointer (some ⟨mb,0,none⟩),.int .i64 k] w λx w'=>x= .returned (.bool (rB ol.ag s.act k))/\w'=w:=by
 obtain⟨t,ht⟩:∃s,ol.ag[k]? =some s:=⟨_,List.getElem?_eq_getElem hk⟩
 have hkl:(k:Int)<(ol.ag.length:Int):=by omega
 have cp:=hm.plan;obtain⟨g,cap,c2,a0,a1,a2,a3⟩:=hp.str.at_ ht
 have hkd:aA ol.ag k=t.kind:=by simp[aA,dD,ht]
 have E1:=hid (jw w mb 1 [.pointer (some ⟨ob,po,none⟩)] s.act (cf s++[qv,ov]) 149 k hm hw.1 rfl)
 have nv:rB ol.ag s.act k=(Ch.has s.act (k:Int)&&(t.kind==1||t.kind==4)):=by unfold rB;rw[hkd]
 rw[nv];clear nv hkd hm hp ht
 cases q1:Ch.has s.act (k:Int)with
 |false=>
  rw[q1]at E1
  go_enter func173,ntmps173
  go_wp2_with fail
  refine bH E1 ?_;rintro x w1 ⟨rfl,rfl⟩;go_wp2;go_ret;exact⟨rfl,rfl⟩
 |true=>?_
 rw[q1]at E1
 cases q2:t.kind==1 with
 |true=>
  go_enter func173,ntmps173
  go_wp2_with fail
  refine bH E1 ?_;rintro x w1 ⟨rfl,rfl⟩;go_wp2;go_ret;exact⟨rfl,rfl⟩
 |false=>?_
 go_enter func173,ntmps173
 go_wp2_with fail
 refine bH E1 ?_;rintro x w1 ⟨rfl,rfl⟩;go_wp2;go_ret;exact⟨rfl,rfl⟩
end
def aJ(l:List Int):List Value:=l.map (Value.int .i64)
def sq(w:World)(v:Value)(l:List Int):Prop:=∃base,w.ownsRow base 3 1 v l.length (aJ l)
theorem sq.keep{S:Nat->Prop}{w w':World}{v:Value}{l:List Int}(h:sq w v l)(k:Kp S w w')(hs:∀i cur,w.heap[i]? =some (.cells cur 3 (0,0))->¬S i):sq w' v l:=by
 obtain⟨base,ho⟩:=h;exact⟨base,k.owns ho (λi hi=>by obtain⟨cur,hg⟩:=br ho hi;exact hs i cur hg)⟩
theorem sq.len{w:World}{v:Value}{l:List Int}(h:sq w v l):∃ao cap,v= .slice ao l.length cap:=by
 obtain⟨base,ho⟩:=h;exact aF ho
theorem sq.at_{w:World}{v:Value}{l:List Int}(h:sq w v l){k:Nat}{n:Int}(hn:l[k]? =some n):∃g cap,v= .slice (some ⟨g,0,none⟩) l.length cap/\w.cell? ⟨g,k,none⟩=some (.int .i64 n):=by
 obtain⟨base,ho⟩:=h;have hk:=(List.getElem?_eq_some_iff.1 hn).1;obtain⟨g,cap,rfl⟩:=gD ho (by omega);refine⟨g,cap,rfl,(ho.cellAt k (by omega)).trans ?_⟩;simp[aJ,hn]
section
variable (w:World)
theorem wy(v:Value)(l:List Int)(n:Int)(h:sq w v l)(hl:l.length<=100000):
 Calls prog 175 #[v,.int .i64 n] w λx w'=>x= .returned (.bool (l.any (· ==n)))/\w'=w:=by
 obtain⟨ao,cap,rfl⟩:=h.len
 go_enter func175,ntmps175
 go_wp2_with fail
 go_loop [5] (λi=>∃k:Nat,i= .int .i64 k/\k<=l.length/\Hid (l.any (· ==n)=(l.drop k).any (· ==n))) (λi=>l.length-(intOf i).toNat)
 case atStart=>exact⟨0,rfl,Nat.zero_le _,hid rfl⟩
 case round=>
  obtain⟨k,rfl,hk,HE⟩:=hrel
  by_cases hlt:k<l.length
  ·have hlt':(k:Int)<(l.length:Int):=by omega
   obtain⟨a,ha⟩:∃s,l[k]? =some s:=⟨_,List.getElem?_eq_getElem hlt⟩
   obtain⟨g,cap',hg,a0⟩:=h.at_ ha;simp only[Value.slice.injEq,true_and]at hg;obtain⟨rfl,rfl⟩:=hg
   have ed:l.drop k=a::l.drop (k+1):=by
    rw[List.drop_eq_getElem_cons hlt];congr 1;exact(List.getElem?_eq_some_iff.1 ha).2
   cases q:a==n with
   |true=>
    have HF:=hid (HE.out.trans (show _=true by rw[ed,List.any_cons,q];rfl));clear ed ha HE h
    go_wp2_with fail
    go_ret;exact⟨by rw[HF.out];rfl,rfl⟩
   |false=>?_
   have HF:=hid (HE.out.trans (show _=(l.drop (k+1)).any (· ==n)by rw[ed,List.any_cons,q];rfl));clear ed ha HE h
   go_wp2_with fail
   go_round
   case rel=>exact⟨k+1,by go_num,by omega,HF⟩
   case measure=>simp[intOf];omega
  have HF:=hid (HE.out.trans (show _=false by rw[List.drop_eq_nil_of_le (by omega)];rfl))
  have hge:¬(k:Int)<(l.length:Int):=by omega
  clear HE
  go_wp2_with fail
  go_ret;exact⟨by rw[HF.out];rfl,rfl⟩
end
namespace Ch
def nB(s:Sd)(st trg:Int)(t:Tr):Bool:=(t.state==st)&&(t.kr==trg)&&holds s t.guard
def dU(s:Sd)(st trg:Int):List Tr->Nat->Int
 | [],_=>-2
 |t::l,k=>if nB s st trg t then k else dU s st trg l (k+1)
def gQ(ol:Ol)(s:Sd)(st trg:Int):Int:=dU s st trg ol.bG 0
def bN(ol:Ol)(s:Sd)(trg:Int):Nat->Int->Int
 |0,_=>-2
 |f+1,i=>if i== -1 then-2 else if gQ ol s i trg != -2 then gQ ol s i trg else bN ol s trg f (aw ol.ag i)
def cr(ol:Ol)(s:Sd)(leaf trg:Int):Int:=bN ol s trg (leaf+2).toNat leaf
theorem MZ(s:Sd)(st trg:Int):∀(l:List Tr) (k:Nat),dU s st trg l k= -2\/∃j:Nat,dU s st trg l k=j/\k<=j/\j<k+l.length:=by
 intro l
 induction l with
 |nil=>intro k;exact .inl rfl
 |cons t l ih=>?_
 intro k;simp only[dU]
 split
 ·exact .inr ⟨k,rfl,Nat.le_refl _,by simp⟩
 rcases ih (k+1)with h|⟨j,e,h1,h2⟩
 ·exact .inl h
 exact .inr ⟨j,e,by omega,by simp;omega⟩
theorem RU(ol:Ol)(s:Sd)(st trg:Int):gQ ol s st trg= -2\/∃j:Nat,gQ ol s st trg=j/\j<ol.bG.length:=by
 rcases MZ s st trg ol.bG 0 with h|⟨j,e,_,h2⟩
 ·exact .inl h
 exact .inr ⟨j,e,by omega⟩
theorem s8(ol:Ol)(s:Sd)(trg:Int):∀(f:Nat) (i:Int),bN ol s trg f i= -2\/∃j:Nat,bN ol s trg f i=j/\j<ol.bG.length:=by
 intro f
 induction f with
 |zero=>intro i;exact .inl rfl
 |succ f ih=>?_
 intro i;simp only[bN]
 split
 ·exact .inl rfl
 split
 ·exact RU ol s i trg
 exact ih _
end Ch
section
variable (w:World) (mb ob po:Nat) (s:Sd) (qv ov:Value) (ol:Ol)
theorem M_(st trg:Int)(hm:iq w mb ob po s qv ov)(hw:s.Wf)(hp:Pl w ob po ol)(hol:ol.Ok):
 Calls prog 221 #[.pointer (some ⟨mb,0,none⟩),.int .i64 st,.int .u8 trg] w λx w'=>x= .returned (.int .i64 (gQ ol s st trg))/\Kp (λ_=>False) w w':=by
 have hl:=hol.bG
 go_enter func221,ntmps221
 go_wp2_with fail
 go_loopw [7] (λi wr=>∃k:Nat,i= .int .i64 k/\k<=ol.bG.length/\Hid (gQ ol s st trg=dU s st trg (ol.bG.drop k) k)/\Kp (λ_=>False) w wr) (λi _=>ol.bG.length-(intOf i).toNat)
 case atStart=>exact⟨0,rfl,Nat.zero_le _,hid rfl,Kp.refl _ _⟩
 case round=>
  obtain⟨k,rfl,hk,HE,KW⟩:=hrel;have hmr:iq wr mb ob po s qv ov:=du.keep hm KW (λx=>x);have hpr:Pl wr ob po ol:=hp.keep KW (λ_ _ _ _ _ x=>x);have cp:=hmr.plan
  by_cases hlt:k<ol.bG.length
  ·have hlt':(k:Int)<(ol.bG.length:Int):=by omega
   obtain⟨t,ht⟩:∃s,ol.bG[k]? =some s:=⟨_,List.getElem?_eq_getElem hlt⟩
   obtain⟨g,cap,ac,base,c3,cc,hac⟩:=hpr.tr ht;obtain⟨aco,RJ,rfl⟩:=aF hac;have a0:=cc 0 (by omega);have a1:=cc 1 (by omega);have a2:=cc 2 (by omega);have a3:=cc 3 (by omega);have a4:=cc 4 (by omega);have a5:=cc 5 (by omega);have a6:=cc 6 (by omega);simp only[List.getElem?_cons_succ,List.getElem?_cons_zero,Nat.add_zero]at a0 a1 a2 a3 a4 a5 a6
   have ed:ol.bG.drop k=t::ol.bG.drop (k+1):=by
    rw[List.drop_eq_getElem_cons hlt];congr 1;exact(List.getElem?_eq_some_iff.1 ht).2
   have KB:Kp (λ_=>False) wr (wr.alloc (.cells #[.int .i64 t.state,.int .u8 t.kr,.int .u8 t.guard.var,.int .u8 t.guard.sign,.int .i64 t.guard.digit,.slice aco t.acts.length RJ,.int .u8 t.target] 209)):=(Kp.refl _ _).alloc _;have KM:=KW.trans KB;have E1:=hid (RO (wr.alloc (.cells #[.int .i64 t.state,.int .u8 t.kr,.int .u8 t.guard.var,.int .u8 t.guard.sign,.int .i64 t.guard.digit,.slice aco t.acts.length RJ,.int .u8 t.target] 209)) mb ob po s qv ov t.guard (du.keep hmr KB (λx=>x)) hw)
   have no:nB s st trg t=false->gQ ol s st trg=dU s st trg (ol.bG.drop (k+1)) (k+1):=λq=>by
    rw[HE.out,ed];simp only[dU];rw[q];rfl
   cases q1:t.state==st with
   |false=>
    have HF:=hid (no (by unfold nB;rw[q1];rfl));clear ed HE ht cc no hac hpr hmr E1 KB
    go_wp2_with fail
    go_roundw
    case rel=>exact⟨k+1,by go_num,by omega,HF,KM⟩
    case measure=>simp[intOf];omega
   |true=>?_
   cases q2:t.kr==trg with
   |false=>
    have HF:=hid (no (by unfold nB;rw[q2];simp));clear ed HE ht cc no hac hpr hmr E1 KB
    go_wp2_with fail
    go_roundw
    case rel=>exact⟨k+1,by go_num,by omega,HF,KM⟩
    case measure=>simp[intOf];omega
   |true=>?_
   cases q3:Ch.holds s t.guard with
   |false=>
    rw[q3]at E1;have HF:=hid (no (by unfold nB;rw[q3];simp));clear ed HE ht cc no hac hpr hmr KB
    go_wp2_with fail
    refine bH E1 ?_;rintro x w2 ⟨rfl,K2⟩;have K3:=KM.trans K2;clear E1 K2 KM a0 a1 a2 a3 a4 a5 a6 c3 cp;go_wp2
    go_roundw
    case rel=>exact⟨k+1,by go_num,by omega,HF,K3⟩
    case measure=>simp[intOf];omega
   |true=>?_
   rw[q3]at E1;have HF:=hid (show gQ ol s st trg=(k:Int)by rw[HE.out,ed];simp only[dU];rw[if_pos (by unfold nB;rw[q1,q2,q3];rfl)]);clear ed HE ht cc no hac hpr hmr KB
   go_wp2_with fail
   refine bH E1 ?_;rintro x w2 ⟨rfl,K2⟩;have K3:=KM.trans K2;clear E1 K2 KM a0 a1 a2 a3 a4 a5 a6 c3 cp;go_wp2;go_ret;exact⟨by rw[HF.out];rfl,K3⟩
  have hge:¬(k:Int)<(ol.bG.length:Int):=by omega
  have HF:=hid (HE.out.trans (show _=(-2:Int)by rw[List.drop_eq_nil_of_le (by omega)];rfl));obtain⟨ao,cap,c3⟩:=hpr.ae6;clear HE hpr hmr
  go_wp2_with fail
  go_ret;exact⟨by rw[HF.out];rfl,KW⟩
theorem Gs(leaf trg:Int)(hlf: -1<=leaf)(hm:iq w mb ob po s qv ov)(hw:s.Wf)(hp:Pl w ob po ol)(hol:ol.Ok):
 Calls prog 174 #[.pointer (some ⟨mb,0,none⟩),.int .i64 leaf,.int .u8 trg] w λx w'=>x= .returned (.int .i64 (cr ol s leaf trg))/\Kp (λ_=>False) w w':=by
 have hl:=hol.ag
 go_enter func174,ntmps174
 go_wp2_with fail
 go_loopw [7] (λv wr=>∃(i:Int) (f:Nat),v= .int .i64 i/\ -1<=i/\i+2<=(f:Int)/\Hid (cr ol s leaf trg=bN ol s trg f i)/\Kp (λ_=>False) w wr) (λv _=>(intOf v+1).toNat)
 case atStart=>exact⟨leaf,(leaf+2).toNat,rfl,hlf,by omega,hid rfl,Kp.refl _ _⟩
 case round=>
  obtain⟨i,f,rfl,hi,hf,HE,KW⟩:=hrel;have hmr:iq wr mb ob po s qv ov:=du.keep hm KW (λx=>x);have hpr:Pl wr ob po ol:=hp.keep KW (λ_ _ _ _ _ x=>x)
  obtain⟨f,rfl⟩:∃g,f=g+1:=⟨f-1,by omega⟩
  cases q1:i != -1 with
  |false=>
   have HF:=hid (HE.out.trans (show _=(-2:Int)by simp only[bN];rw[if_pos (by simpa using q1)]));clear HE hmr hpr
   go_wp2_with fail
   go_ret;exact⟨by rw[HF.out];rfl,KW⟩
  |true=>?_
  have hne:i≠ -1:=by simpa using q1
  have p1:=gP hol.up (i:=i) (by omega);have p2:=fH hol.up i;have E1:=hid (M_ wr mb ob po s qv ov ol i trg hmr hw hpr hol)
  have q1':¬(i== -1)=true:=by simpa using hne
  have HM:=hid (ae hmr hpr)
  cases q2:gQ ol s i trg != -2 with
  |true=>
   have HF:=hid (HE.out.trans (show _=gQ ol s i trg by simp only[bN];rw[if_neg q1',if_pos q2]));clear HE hmr hpr q1'
   go_wp2_with fail
   refine bH E1 ?_;rintro x w2 ⟨rfl,K2⟩;have K3:=KW.trans K2;clear E1 K2 KW;go_wp2;go_ret;exact⟨by rw[HF.out];rfl,K3⟩
  |false=>?_
  have HF:=hid (HE.out.trans (show _=bN ol s trg f (aw ol.ag i)by simp only[bN];rw[if_neg q1',if_neg (by rw[q2];exact Bool.false_ne_true)]));clear HE hmr hpr q1'
  go_wp2_with fail
  refine bH E1 ?_;rintro x w2 ⟨rfl,K2⟩;have K3:=KW.trans K2;have hp2:Pl w2 ob po ol:=HM.out.2.keep K2 (λ_ _ _ _ _ x=>x);have cp:=iq.plan (du.keep HM.out.1 K2 (λx=>x));have E2:=hid (fW ob po w2 ol.ag i hp2.str (by omega));clear E1 K2 KW HM hp2
  go_wp2_with fail
  refine bH E2 ?_;rintro x w3 ⟨rfl,rfl⟩;go_wp2
  go_roundw
  case rel=>exact⟨_,f,rfl,p2,by omega,HF,K3⟩
  case measure=>simp[intOf];omega
end
theorem lI:(prog.info? 3).map (λi=>(i.zero,i.size,i.bytes))=some (some (.int .i64 0),1,8):=by kernel_rfl
namespace Ch
def eG(ol:Ol)(k:Nat):Int:=match ol.bG[k]? with|some t=>t.state|none=>0
def within(ol:Ol)(t other:Nat):Bool:=au ol.ag (eG ol other) (eG ol t)
def dw(ol:Ol)(s:Sd)(trg:Int)(fl:List Int)(k:Nat):List Int:=
 if rB ol.ag s.act k&&(cr ol s k trg != -2)&& !(fl.any (· ==cr ol s k trg))then fl++[cr ol s k trg]else fl
def findF(ol:Ol)(s:Sd)(trg:Int):Nat->Nat->List Int->List Int
 |0,_,fl=>fl
 |f+1,k,fl=>findF ol s trg f (k+1) (dw ol s trg fl k)
def find(ol:Ol)(s:Sd)(trg:Int):List Int:=findF ol s trg ol.ag.length 0 []
end Ch
section
variable (w:World) (mb ob po:Nat) (s:Sd) (qv ov:Value) (ol:Ol)
theorem VL(trg:Int)(hm:iq w mb ob po s qv ov)(hw:s.Wf)(hp:Pl w ob po ol)(hol:ol.Ok):
 Calls prog 129 #[.pointer (some ⟨mb,0,none⟩),.int .u8 trg] w λx w'=>∃v,x= .returned v/\w'.ownsRow w.heap.size 3 1 v (Ch.find ol s trg).length (aJ (Ch.find ol s trg))/\Kp (λ_=>False) w w':=by
 have hl:=hol.ag;obtain⟨i0,hi,hz0,hz1,hz2⟩:=info_parts lI
 go_enter func129,ntmps129
 go_wp2_with fail
 go_loopw [5,6] (λfv i wr=>∃(k:Nat) (fl:List Int),i= .int .i64 k/\k<=ol.ag.length/\wr.ownsRow w.heap.size 3 1 fv fl.length (aJ fl)/\fl.length<=k/\Hid (Ch.find ol s trg=Ch.findF ol s trg (ol.ag.length-k) k fl)/\Kp (λ_=>False) w wr) (λ_ i _=>ol.ag.length-(intOf i).toNat)
 case atStart=>exact⟨0,[],rfl,Nat.zero_le _,World.ownsRow_nil _ _ _ _,Nat.le_refl _,hid rfl,Kp.refl _ _⟩
 case round=>
  obtain⟨k,fl,rfl,hk,hfo,hfl,HE,KW⟩:=hrel;have hmr:iq wr mb ob po s qv ov:=du.keep hm KW (λx=>x);have hpr:Pl wr ob po ol:=hp.keep KW (λ_ _ _ _ _ x=>x);have cp:=hmr.plan;obtain⟨ao,cap,c2⟩:=hpr.str.len
  by_cases hlt:k<ol.ag.length
  ·have hlt':(k:Int)<(ol.ag.length:Int):=by omega
   have ef:ol.ag.length-k=(ol.ag.length-(k+1))+1:=by omega
   have E1:=hid (MY wr mb ob po s qv ov ol k hmr hw hpr hlt);have E2:=hid (Gs wr mb ob po s qv ov ol k trg (by omega) hmr hw hpr hol)
   have no:dw ol s trg fl k=fl->Ch.find ol s trg=Ch.findF ol s trg (ol.ag.length-(k+1)) (k+1) fl:=λq=>by
    rw[HE.out,ef];simp only[Ch.findF];rw[q]
   cases q1:rB ol.ag s.act k with
   |false=>
    rw[q1]at E1;have HF:=hid (no (by unfold dw;rw[q1];rfl));clear HE no ef hmr hpr E2
    go_wp2_with fail
    refine bH E1 ?_;rintro x w1 ⟨rfl,rfl⟩;go_wp2
    go_roundw
    case rel=>exact⟨k+1,fl,by go_num,by omega,hfo,by omega,HF,KW⟩
    case measure=>simp[intOf];omega
   |true=>?_
   rw[q1]at E1
   cases q2:cr ol s k trg != -2 with
   |false=>
    have HF:=hid (no (by unfold dw;rw[q1,q2];rfl));clear HE no ef hmr hpr
    go_wp2_with fail
    refine bH E1 ?_;rintro x w1 ⟨rfl,rfl⟩
    go_wp2_with fail
    refine bH E2 ?_;rintro x w2 ⟨rfl,K2⟩;have K3:=KW.trans K2;have Gt:=K2.owns hfo (λ_ _ x=>x);clear E1 E2 K2 KW cp c2 hfo;go_wp2
    go_roundw
    case rel=>exact⟨k+1,fl,by go_num,by omega,Gt,by omega,HF,K3⟩
    case measure=>simp[intOf];omega
   |true=>?_
   cases q3:fl.any (· ==cr ol s k trg)with
   |true=>
    have HF:=hid (no (by unfold dw;rw[q1,q2,q3];rfl));clear HE no ef hmr hpr
    go_wp2_with fail
    refine bH E1 ?_;rintro x w1 ⟨rfl,rfl⟩
    go_wp2_with fail
    refine bH E2 ?_;rintro x w2 ⟨rfl,K2⟩;have K3:=KW.trans K2;have Gt:=K2.owns hfo (λ_ _ x=>x);have E3:=hid (wy w2 u5 fl (cr ol s k trg) ⟨_,Gt⟩ (by omega));rw[q3]at E3;clear E1 E2 K2 KW cp c2 hfo
    go_wp2_with fail
    refine bH E3 ?_;rintro x w3 ⟨rfl,rfl⟩;go_wp2
    go_roundw
    case rel=>exact⟨k+1,fl,by go_num,by omega,Gt,by omega,HF,K3⟩
    case measure=>simp[intOf];omega
   |false=>?_
   have HF:=hid (show Ch.find ol s trg=Ch.findF ol s trg (ol.ag.length-(k+1)) (k+1) (fl++[cr ol s k trg])by
    rw[HE.out,ef];simp only[Ch.findF];congr 1;unfold dw;rw[q1,q2,q3];rfl)
   clear HE no ef hmr hpr
   go_wp2_with fail
   refine bH E1 ?_;rintro x w1 ⟨rfl,rfl⟩
   go_wp2_with fail
   refine bH E2 ?_;rintro x w2 ⟨rfl,K2⟩;have K3:=KW.trans K2;have Gt:=K2.owns hfo (λ_ _ x=>x);have E3:=hid (wy w2 u5 fl (cr ol s k trg) ⟨_,Gt⟩ (by omega));rw[q3]at E3;clear E1 E2 K2 KW cp c2 hfo
   go_wp2_with fail
   refine bH E3 ?_;rintro x w3 ⟨rfl,rfl⟩;clear E3
   go_wp2_with (at_builtin;refine wpList_append_own _ rfl (.tmp 36) (.tmp 38) 38 rfl w.heap.size 3 i0 (.int .i64 0) 1 8 underlying38 hi hz0 hz1 hz2 rfl (by decide) _ _ _ rfl (Gt.alloc _) ⟨w3.heap.size,0,none⟩ 1 1 [.int .i64 (cr ol s k trg)] rfl rfl ?c1 ?c2 ?c3 ?c4 ?c5 ?_)
   case c1=>exact eO _ _ _
   case c2=>intro u hu;simp at hu;subst hu;rfl
   case c3=>unfold maxLen;omega
   case c4=>omega
   case c5=>have:=K3.size;simp;omega
   intro v4 w4 o4 g4 _;have K4:Kp (λ_=>False) w w4:=Kp.grown (K3.alloc _) g4 (λi hi hlt=>by have:=(Gt.lt i hi).1;omega);clear g4 K3 Gt;go_wp2
   go_roundw
   case rel=>exact⟨k+1,_,by go_num,by omega,by simpa[aJ]using o4,by simp;omega,HF,K4⟩
   case measure=>simp[intOf];omega
  have hge:¬(k:Int)<(ol.ag.length:Int):=by omega
  have HF:=hid (HE.out.trans (show _=fl by rw[show ol.ag.length-k=0 by omega];rfl));clear HE hpr hmr
  go_wp2_with fail
  go_ret;rw[HF.out];exact⟨_,rfl,hfo,KW⟩
end
section
variable (w:World) (mb ob po:Nat) (s:Sd) (qv ov:Value) (ol:Ol)
theorem Na(t other:Nat)(ht:t<ol.bG.length)(ho:other<ol.bG.length)(hm:iq w mb ob po s qv ov)(hp:Pl w ob po ol)(hol:ol.Ok):
 Calls prog 178 #[.pointer (some ⟨mb,0,none⟩),.int .i64 t,.int .i64 other] w λx w'=>x= .returned (.bool (Ch.within ol t other))/\Kp (λ_=>False) w w':=by
 obtain⟨a,ha⟩:∃s,ol.bG[t]? =some s:=⟨_,List.getElem?_eq_getElem ht⟩
 obtain⟨b,hb⟩:∃s,ol.bG[other]? =some s:=⟨_,List.getElem?_eq_getElem ho⟩
 have ht':(t:Int)<(ol.bG.length:Int):=by omega
 have ho':(other:Int)<(ol.bG.length:Int):=by omega
 have cp:=hm.plan;obtain⟨g,cap,ac,base,c3,cc,hac⟩:=hp.tr ha;obtain⟨g',cap',ac',base',c3',cc',aiP⟩:=hp.tr hb;rw[c3]at c3';simp only[Option.some.injEq,Value.slice.injEq,true_and]at c3';have eg:=c3'.1;simp only[Addr.mk.injEq,and_true]at eg;subst eg;have a0:=cc 0 (by omega);have b0:=cc' 0 (by omega);simp only[List.getElem?_cons_zero,Nat.add_zero]at a0 b0;rw[show Ch.within ol t other=au ol.ag b.state a.state by simp[Ch.within,eG,ha,hb]];have uT:=hol.ag;have hU:=hol.up;have E:=hid (λn:Nat=>lO ob po (w.drewN n) ol.ag b.state a.state hU (by exact hp.str) (by omega));clear cc cc' hac aiP ha hb hm hp c3' hol
 go_enter func178,ntmps178
 go_upto_region 1 with(fail)
 go_quiet ((go_at_call 218;exact Calls.quiet_of_same (Hid.out E _)))
 go_wp2;go_ret;exact⟨rfl,(Kp.refl _ _).drewN _⟩
end
namespace Ch
def jb(ss:List St)(child parent:Int):List Int->Bool
 | []=>child==cH ss parent
 |g::l=>if au ss parent g then(child==g||au ss child g)else jb ss child parent l
end Ch
section
variable (w:World) (mb ob po:Nat) (s:Sd) (qv ov:Value) (ol:Ol)
theorem Gu(child parent:Int)(v:Value)(goals:List Int)(h:sq w v goals)(hl:goals.length<=100000)(hm:iq w mb ob po s qv ov)(hp:Pl w ob po ol)(hol:ol.Ok):
 Calls prog 165 #[.pointer (some ⟨mb,0,none⟩),.int .i64 child,.int .i64 parent,v] w λx w'=>x= .returned (.bool (jb ol.ag child parent goals))/\Kp (λ_=>False) w w':=by
 have uT:=hol.ag;have hU:=hol.up;obtain⟨ao,cap,rfl⟩:=h.len
 go_enter func165,ntmps165
 go_wp2_with fail
 go_loopw [9] (λi wr=>∃k:Nat,i= .int .i64 k/\k<=goals.length/\Hid (jb ol.ag child parent goals=jb ol.ag child parent (goals.drop k))/\Kp (λ_=>False) w wr) (λi _=>goals.length-(intOf i).toNat)
 case atStart=>exact⟨0,rfl,Nat.zero_le _,hid rfl,Kp.refl _ _⟩
 case round=>
  obtain⟨k,rfl,hk,HE,KW⟩:=hrel;have hmr:iq wr mb ob po s qv ov:=du.keep hm KW (λx=>x);have hpr:Pl wr ob po ol:=hp.keep KW (λ_ _ _ _ _ x=>x);have hr:sq wr (.slice ao goals.length cap) goals:=h.keep KW (λ_ _ _ x=>x);have cp:=hmr.plan
  by_cases hlt:k<goals.length
  ·have hlt':(k:Int)<(goals.length:Int):=by omega
   obtain⟨a,ha⟩:∃s,goals[k]? =some s:=⟨_,List.getElem?_eq_getElem hlt⟩
   obtain⟨g,cap',hg,a0⟩:=hr.at_ ha;simp only[Value.slice.injEq,true_and]at hg;obtain⟨rfl,rfl⟩:=hg
   have ed:goals.drop k=a::goals.drop (k+1):=by
    rw[List.drop_eq_getElem_cons hlt];congr 1;exact(List.getElem?_eq_some_iff.1 ha).2
   have E1:=hid (λn:Nat=>lO ob po (wr.drewN n) ol.ag parent a hU (by exact hpr.str) (by omega))
   cases q1:au ol.ag parent a with
   |false=>
    simp only[q1]at E1;have HF:=hid (HE.out.trans (show _=jb ol.ag child parent (goals.drop (k+1))by rw[ed];simp only[jb];rw[q1];rfl));clear ed HE ha hr hmr hpr h
    go_upto_region 4 with(fail)
    go_quiet ((go_at_call 218;exact Calls.quiet_of_same (Hid.out E1 _)))
    go_wp2
    go_roundw
    case rel=>exact⟨k+1,by go_num,by omega,HF,KW.drewN _⟩
    case measure=>simp[intOf];omega
   |true=>?_
   simp only[q1]at E1
   have cp2:∀n,(wr.drewN n).cell? ⟨mb,0,none⟩=some (.pointer (some ⟨ob,po,none⟩)):=λn=>cp
   have a02:∀n,(wr.drewN n).cell? ⟨g,k,none⟩=some (.int .i64 a):=λn=>a0
   cases q2:child==a with
   |true=>
    have HF:=hid (HE.out.trans (show _=true by rw[ed];simp only[jb];rw[q1,q2];rfl));clear ed HE ha hr hmr hpr h
    go_upto_region 4 with(fail)
    go_quiet ((go_at_call 218;exact Calls.quiet_of_same (Hid.out E1 _)))
    go_upto_region 5 with(fail)
    go_quiet (fail)
    go_wp2;go_ret;exact⟨by rw[HF.out];rfl,(KW.drewN _).drewN _⟩
   |false=>?_
   have E2b:=hid (λn:Nat=>lO ob po (wr.drewN n) ol.ag child a hU (by exact hpr.str) (by omega));have HF:=hid (HE.out.trans (show _=au ol.ag child a by rw[ed];simp only[jb];rw[q1,q2];rfl));clear ed HE ha hr hmr hpr h
   go_upto_region 4 with(fail)
   go_quiet ((go_at_call 218;exact Calls.quiet_of_same (Hid.out E1 _)))
   go_upto_region 5 with(fail)
   go_quiet ((go_at_call 218;exact Calls.mono (Hid.out E2b _) (λ_ _ h=>⟨h.1,_,h.2⟩)))
   go_wp2;go_ret;exact⟨by rw[HF.out];rfl,(KW.drewN _).drewN _⟩
  have hge:¬(k:Int)<(goals.length:Int):=by omega
  have HF:=hid (HE.out.trans (show _=(child==cH ol.ag parent)by rw[List.drop_eq_nil_of_le (by omega)];rfl));have E3:=hid (nu ob po wr ol.ag parent hpr.str (by omega));clear HE hr hmr hpr h
  go_wp2_with fail
  refine bH E3 ?_;rintro x w1 ⟨rfl,rfl⟩;go_wp2;go_ret;exact⟨by rw[HF.out];rfl,KW⟩
end
namespace Ch
def gU(ss:List St)(act bB:List Bool)(goals:List Int)(i:Int):Bool:=
 if has bB i|| !aB ss i (aw ss i)then false
 else if(aw ss i != -1)&& !has act (aw ss i)then false
 else if aA ss (aw ss i)==3 then true
 else !kept ss bB (aw ss i)&&jb ss i (aw ss i) goals
end Ch
section
variable (w:World) (mb ob po:Nat) (s:Sd) (qv ov:Value) (ol:Ol)
theorem RV(i:Int)(sb:Nat)(l:List Bool)(v:Value)(goals:List Int)(hL:ju w sb [] l [] 91)(h16:l.length=16)(h:sq w v goals)(hl:goals.length<=100000)(hm:iq w mb ob po s qv ov)(hw:s.Wf)(hp:Pl w ob po ol)(hol:ol.Ok):
 Calls prog 117 #[.pointer (some ⟨mb,0,none⟩),.int .i64 i,.pointer (some ⟨sb,0,none⟩),v] w λx w'=>x= .returned (.bool (gU ol.ag s.act l goals i))/\Kp (λ_=>False) w w':=by
 have uT:=hol.ag;have cp:=hm.plan;have E1:=hid (fW ob po w ol.ag i hp.str (by omega));have E2:=hid (jw w sb 0 [] l [] 91 i hL h16 rfl);have E3:=hid (iZ ob po w ol.ag i (aw ol.ag i) hp.str (by omega));have E4:=hid (jw w mb 1 [.pointer (some ⟨ob,po,none⟩)] s.act (cf s++[qv,ov]) 149 (aw ol.ag i) hm hw.1 rfl);have E5:=hid (ky ob po w ol.ag (aw ol.ag i) hp.str (by omega));have E6:=hid (VK w mb ob po s qv ov ol sb 0 [] l [] 91 (aw ol.ag i) hm hp (by omega) hL h16 rfl);have E7:=hid (Gu w mb ob po s qv ov ol i (aw ol.ag i) v goals h hl hm hp hol);clear hm hp hL h
 cases q1:Ch.has l i with
 |true=>
  rw[q1]at E2;rw[show gU ol.ag s.act l goals i=false by unfold gU;simp[q1]]
  go_enter func117,ntmps117
  go_wp2_with fail
  refine bH E1 ?_;rintro x w1 ⟨rfl,rfl⟩
  go_wp2_with fail
  refine bH E2 ?_;rintro x w1 ⟨rfl,rfl⟩;go_wp2;go_ret;exact⟨rfl,Kp.refl _ _⟩
 |false=>?_
 rw[q1]at E2
 cases q2:aB ol.ag i (aw ol.ag i)with
 |true=>
  rw[q2]at E3
  cases q3:(aw ol.ag i)!= -1 with
  |true=>
   cases q4:Ch.has s.act (aw ol.ag i)with
   |true=>
    rw[q4]at E4
    cases q5:aA ol.ag (aw ol.ag i)==3 with
    |true=>
     rw[show gU ol.ag s.act l goals i=true by unfold gU;simp[q1,q2,q4,q5]]
     go_enter func117,ntmps117
     go_wp2_with fail
     refine bH E1 ?_;rintro x w1 ⟨rfl,rfl⟩
     go_wp2_with fail
     refine bH E2 ?_;rintro x w1 ⟨rfl,rfl⟩
     go_wp2_with fail
     refine bH E3 ?_;rintro x w1 ⟨rfl,rfl⟩
     go_wp2_with fail
     refine bH E4 ?_;rintro x w1 ⟨rfl,rfl⟩
     go_wp2_with fail
     refine bH E5 ?_;rintro x w1 ⟨rfl,rfl⟩;go_wp2;go_ret;exact⟨rfl,Kp.refl _ _⟩
    |false=>?_
    cases q6:Ch.kept ol.ag l (aw ol.ag i)with
    |true=>
     rw[q6]at E6;rw[show gU ol.ag s.act l goals i=false by unfold gU;simp[q1,q2,q4,q5,q6]]
     go_enter func117,ntmps117
     go_wp2_with fail
     refine bH E1 ?_;rintro x w1 ⟨rfl,rfl⟩
     go_wp2_with fail
     refine bH E2 ?_;rintro x w1 ⟨rfl,rfl⟩
     go_wp2_with fail
     refine bH E3 ?_;rintro x w1 ⟨rfl,rfl⟩
     go_wp2_with fail
     refine bH E4 ?_;rintro x w1 ⟨rfl,rfl⟩
     go_wp2_with fail
     refine bH E5 ?_;rintro x w1 ⟨rfl,rfl⟩
     go_wp2_with fail
     refine bH E6 ?_;rintro x w1 ⟨rfl,rfl⟩;go_wp2;go_ret;exact⟨rfl,Kp.refl _ _⟩
    |false=>?_
    rw[q6]at E6;rw[show gU ol.ag s.act l goals i=jb ol.ag i (aw ol.ag i) goals by unfold gU;simp[q1,q2,q4,q5,q6]]
    go_enter func117,ntmps117
    go_wp2_with fail
    refine bH E1 ?_;rintro x w1 ⟨rfl,rfl⟩
    go_wp2_with fail
    refine bH E2 ?_;rintro x w1 ⟨rfl,rfl⟩
    go_wp2_with fail
    refine bH E3 ?_;rintro x w1 ⟨rfl,rfl⟩
    go_wp2_with fail
    refine bH E4 ?_;rintro x w1 ⟨rfl,rfl⟩
    go_wp2_with fail
    refine bH E5 ?_;rintro x w1 ⟨rfl,rfl⟩
    go_wp2_with fail
    refine bH E6 ?_;rintro x w1 ⟨rfl,rfl⟩
    go_wp2_with fail
    refine bH E7 ?_;rintro x w7 ⟨rfl,K7⟩;go_wp2;go_ret;exact⟨rfl,K7⟩
   |false=>?_
   rw[q4]at E4;rw[show gU ol.ag s.act l goals i=false by unfold gU;simp[q1,q2,q3,q4]]
   go_enter func117,ntmps117
   go_wp2_with fail
   refine bH E1 ?_;rintro x w1 ⟨rfl,rfl⟩
   go_wp2_with fail
   refine bH E2 ?_;rintro x w1 ⟨rfl,rfl⟩
   go_wp2_with fail
   refine bH E3 ?_;rintro x w1 ⟨rfl,rfl⟩
   go_wp2_with fail
   refine bH E4 ?_;rintro x w1 ⟨rfl,rfl⟩;go_wp2;go_ret;exact⟨rfl,Kp.refl _ _⟩
  |false=>?_
  cases q5:aA ol.ag (aw ol.ag i)==3 with
  |true=>
   rw[show gU ol.ag s.act l goals i=true by unfold gU;simp[q1,q2,q3,q5]]
   go_enter func117,ntmps117
   go_wp2_with fail
   refine bH E1 ?_;rintro x w1 ⟨rfl,rfl⟩
   go_wp2_with fail
   refine bH E2 ?_;rintro x w1 ⟨rfl,rfl⟩
   go_wp2_with fail
   refine bH E3 ?_;rintro x w1 ⟨rfl,rfl⟩
   go_wp2_with fail
   refine bH E5 ?_;rintro x w1 ⟨rfl,rfl⟩;go_wp2;go_ret;exact⟨rfl,Kp.refl _ _⟩
  |false=>?_
  cases q6:Ch.kept ol.ag l (aw ol.ag i)with
  |true=>
   rw[q6]at E6;rw[show gU ol.ag s.act l goals i=false by unfold gU;simp[q1,q2,q3,q5,q6]]
   go_enter func117,ntmps117
   go_wp2_with fail
   refine bH E1 ?_;rintro x w1 ⟨rfl,rfl⟩
   go_wp2_with fail
   refine bH E2 ?_;rintro x w1 ⟨rfl,rfl⟩
   go_wp2_with fail
   refine bH E3 ?_;rintro x w1 ⟨rfl,rfl⟩
   go_wp2_with fail
   refine bH E5 ?_;rintro x w1 ⟨rfl,rfl⟩
   go_wp2_with fail
   refine bH E6 ?_;rintro x w1 ⟨rfl,rfl⟩;go_wp2;go_ret;exact⟨rfl,Kp.refl _ _⟩
  |false=>?_
  rw[q6]at E6;rw[show gU ol.ag s.act l goals i=jb ol.ag i (aw ol.ag i) goals by unfold gU;simp[q1,q2,q3,q5,q6]]
  go_enter func117,ntmps117
  go_wp2_with fail
  refine bH E1 ?_;rintro x w1 ⟨rfl,rfl⟩
  go_wp2_with fail
  refine bH E2 ?_;rintro x w1 ⟨rfl,rfl⟩
  go_wp2_with fail
  refine bH E3 ?_;rintro x w1 ⟨rfl,rfl⟩
  go_wp2_with fail
  refine bH E5 ?_;rintro x w1 ⟨rfl,rfl⟩
  go_wp2_with fail
  refine bH E6 ?_;rintro x w1 ⟨rfl,rfl⟩
  go_wp2_with fail
  refine bH E7 ?_;rintro x w7 ⟨rfl,K7⟩;go_wp2;go_ret;exact⟨rfl,K7⟩
 |false=>?_
 rw[q2]at E3;rw[show gU ol.ag s.act l goals i=false by unfold gU;simp[q1,q2]]
 go_enter func117,ntmps117
 go_wp2_with fail
 refine bH E1 ?_;rintro x w1 ⟨rfl,rfl⟩
 go_wp2_with fail
 refine bH E2 ?_;rintro x w1 ⟨rfl,rfl⟩
 go_wp2_with fail
 refine bH E3 ?_;rintro x w1 ⟨rfl,rfl⟩;go_wp2;go_ret;exact⟨rfl,Kp.refl _ _⟩
end
namespace Ch
def bU(ol:Ol)(s:Sd):List Int->List Int
 | []=>[]
 |t::l=>match ol.bG[t.toNat]? with
  |some x=>if x.target==45 then bU ol s l else goal ol.ag s (place ol.ag x.target)::bU ol s l
  |none=>bU ol s l
def InT(ol:Ol)(l:List Int):Prop:=∀n∈l,0<=n/\n<(ol.bG.length:Int)
end Ch
section
variable (w:World) (mb ob po:Nat) (s:Sd) (qv ov:Value) (ol:Ol)
theorem RW(v:Value)(list:List Int)(h:sq w v list)(hin:InT ol list)(hl:list.length<=1000)(hm:iq w mb ob po s qv ov)(hw:s.Wf)(hp:Pl w ob po ol)(hol:ol.Ok):
 Calls prog 116 #[.pointer (some ⟨mb,0,none⟩),v] w λx w'=>∃v',x= .returned v'/\w'.ownsRow w.heap.size 3 1 v' (bU ol s list).length (aJ (bU ol s list))/\Kp (λ_=>False) w w':=by
 have uT:=hol.ag;obtain⟨i0,hi,hz0,hz1,hz2⟩:=info_parts lI;obtain⟨ao,cap,rfl⟩:=h.len
 go_enter func116,ntmps116
 go_wp2_with fail
 go_loopw [5,6] (λfv i wr=>∃(k:Nat) (fl:List Int),i= .int .i64 k/\k<=list.length/\wr.ownsRow w.heap.size 3 1 fv fl.length (aJ fl)/\fl.length<=k/\Hid (bU ol s list=fl++bU ol s (list.drop k))/\Kp (λ_=>False) w wr) (λ_ i _=>list.length-(intOf i).toNat)
 case atStart=>exact⟨0,[],rfl,Nat.zero_le _,World.ownsRow_nil _ _ _ _,Nat.le_refl _,hid rfl,Kp.refl _ _⟩
 case round=>
  obtain⟨k,fl,rfl,hk,hfo,hfl,HE,KW⟩:=hrel;have hmr:iq wr mb ob po s qv ov:=du.keep hm KW (λx=>x);have hpr:Pl wr ob po ol:=hp.keep KW (λ_ _ _ _ _ x=>x);have hr:sq wr (.slice ao list.length cap) list:=h.keep KW (λ_ _ _ x=>x);have cp:=hmr.plan
  by_cases hlt:k<list.length
  ·have hlt':(k:Int)<(list.length:Int):=by omega
   obtain⟨a,ha⟩:∃s,list[k]? =some s:=⟨_,List.getElem?_eq_getElem hlt⟩
   obtain⟨g,cap',hg,a0⟩:=hr.at_ ha;simp only[Value.slice.injEq,true_and]at hg;obtain⟨rfl,rfl⟩:=hg
   have ed:list.drop k=a::list.drop (k+1):=by
    rw[List.drop_eq_getElem_cons hlt];congr 1;exact(List.getElem?_eq_some_iff.1 ha).2
   obtain⟨ha1,ha2⟩:=hin a (List.mem_of_getElem? ha)
   obtain⟨j,rfl⟩:∃j:Nat,a=j:=⟨a.toNat,by omega⟩
   have hj:j<ol.bG.length:=by omega
   obtain⟨t,ht⟩:∃s,ol.bG[j]? =some s:=⟨_,List.getElem?_eq_getElem hj⟩
   obtain⟨tg,acy,ac,base,c3,cc,_⟩:=hpr.tr ht;have b6:=cc 6 (by omega);simp only[List.getElem?_cons_succ,List.getElem?_cons_zero]at b6
   have step:bU ol s (list.drop k)=if t.target==45 then bU ol s (list.drop (k+1))else Ch.goal ol.ag s (Ch.place ol.ag t.target)::bU ol s (list.drop (k+1)):=by
    rw[ed];simp only[bU,Int.toNat_natCast,ht]
   cases q1:t.target==45 with
   |true=>
    have HF:=hid (show bU ol s list=fl++bU ol s (list.drop (k+1))by rw[HE.out,step,q1];rfl);clear HE step ed ha ht cc hr hmr hpr h
    go_upto_region 5 with(fail)
    go_quiet (fail)
    go_wp2
    go_roundw
    case rel=>exact⟨k+1,fl,by go_num,by omega,hfo,by omega,HF,KW.drewN _⟩
    case measure=>simp[intOf];omega
   |false=>?_
   have HF:=hid (show bU ol s list=(fl++[Ch.goal ol.ag s (Ch.place ol.ag t.target)])++bU ol s (list.drop (k+1))by rw[HE.out,step,q1];simp);have HX:=hid (ae hmr (ae hpr hfo));clear HE step ed ha ht cc hr hmr hpr h hfo
   go_upto_region 5 with(fail)
   go_quiet (fail)
   have KD:=KW.drewN nq
   obtain⟨hmr,hpr,hfo⟩:iq (wr.drewN nq) mb ob po s qv ov/\Pl (wr.drewN nq) ob po ol/\(wr.drewN nq).ownsRow w.heap.size 3 1 u5 fl.length (aJ fl):=⟨HX.out.1,HX.out.2.1.keep ((Kp.refl (λ_=>False) _).drewN nq) (λ_ _ _ _ _ x=>x),HX.out.2.2⟩
   generalize wr.drewN nq=w5 at*;have cp5:=hmr.plan;have E1:=hid (kY ob po w5 ol.ag t.target hpr.str (by omega));have E2:=hid (λn:Nat=>Vy ob po (w5.drewN n) ol.ag mb 1 [.pointer (some ⟨ob,po,none⟩)] [qv,ov] 149 s (Ch.place ol.ag t.target) (by exact hpr.str) (by omega) (by exact hmr) hw rfl);clear HX hmr hpr cp c3 b6 a0 KW
   go_wp2_with fail
   refine bH E1 ?_;rintro x w6 ⟨rfl,rfl⟩
   go_upto_region 8 with(fail)
   go_quiet ((go_at_call 160;exact Calls.quiet_of_same (Hid.out E2 _)))
   have KE:=KD.drewN nq;have acz:(w6.drewN nq).ownsRow w.heap.size 3 1 u5 fl.length (aJ fl):=hfo;generalize w6.drewN nq=w7 at*
   go_wp2_with (at_builtin;refine wpList_append_own _ rfl (.tmp 47) (.tmp 49) 38 rfl w.heap.size 3 i0 (.int .i64 0) 1 8 underlying38 hi hz0 hz1 hz2 rfl (by decide) _ _ _ rfl (acz.alloc _) ⟨w7.heap.size,0,none⟩ 1 1 [.int .i64 (Ch.goal ol.ag s (Ch.place ol.ag t.target))] rfl rfl ?c1 ?c2 ?c3 ?c4 ?c5 ?_)
   case c1=>exact eO _ _ _
   case c2=>intro u hu;simp at hu;subst hu;rfl
   case c3=>unfold maxLen;omega
   case c4=>omega
   case c5=>have:=KE.size;simp;omega
   intro v4 w8 o4 g4 _;have K4:Kp (λ_=>False) w w8:=Kp.grown (KE.alloc _) g4 (λi hi hlt=>by have:=(acz.lt i hi).1;omega);clear g4 KE acz;go_wp2
   go_roundw
   case rel=>exact⟨k+1,_,by go_num,by omega,by simpa[aJ]using o4,by simp;omega,HF,K4⟩
   case measure=>simp[intOf];omega
  have hge:¬(k:Int)<(list.length:Int):=by omega
  have HF:=hid (HE.out.trans (show _=fl by rw[List.drop_eq_nil_of_le (by omega)];simp[bU]));clear HE hr hpr hmr
  go_wp2_with fail
  go_ret;rw[HF.out];exact⟨_,rfl,hfo,KW⟩
end
namespace Ch
def take(ss:List St)(a p t:ByteArray)(x y z:Int):Bool×Sd:=
 if(bT ss a).2 then
  if(bD ss p).2 then
   if j2 t&&jU x&&jU y&&jU z then(true,⟨(bT ss a).1,(bD ss p).1,t,x,y,z⟩)else(false,jH)
  else(false,jH)
 else(false,jH)
end Ch
theorem vo:(lK:Array Value).all (λx=>x.oneCell')=true:=by kernel_rfl
section
variable (ob oo:Nat) (w:World) (ss:List St)
theorem RX(a p t:ByteArray)(x y z:Int)(ha:a.size<=9223372036854775807)(hp:p.size<=9223372036854775807)(ht:t.size<=9223372036854775807)(hS:mg w ob oo ss)(hl:ss.length<=1000):
 Calls prog 79 #[.pointer (some ⟨ob,oo,none⟩),.agg #[.string a,.string p,.string t,.int .i64 x,.int .i64 y,.int .i64 z]] w
  λr w'=>r= .returned (.tuple #[.agg (ax (Ch.take ss a p t x y z).2).toArray,.bool (Ch.take ss a p t x y z).1])/\Kp (λ_=>False) w w':=by
 obtain⟨ds,hds,eY⟩:=eT;obtain⟨de,hde,hea⟩:=AH;obtain⟨dm,hdm,hma⟩:=Gk;have hS2:mg ((w.alloc (.cells #[.string a,.string p,.string t,.int .i64 x,.int .i64 y,.int .i64 z] 26)).alloc (.cells aW 95)) ob oo ss:=(hS.alloc _).alloc _
 have hb2:((w.alloc (.cells #[.string a,.string p,.string t,.int .i64 x,.int .i64 y,.int .i64 z] 26)).alloc (.cells aW 95)).heap[w.heap.size]? =some (.cells #[.string a,.string p,.string t,.int .i64 x,.int .i64 y,.int .i64 z] 26):=by rw[Below.heap_alloc _ _ _ (by simp)];exact heap_alloc_new _ _
 have hr2:((w.alloc (.cells #[.string a,.string p,.string t,.int .i64 x,.int .i64 y,.int .i64 z] 26)).alloc (.cells aW 95)).heap[w.heap.size+1]? =some (.cells aW 95):=heap_alloc2_new w _ _;have K2:Kp (λ_=>False) w ((w.alloc (.cells #[.string a,.string p,.string t,.int .i64 x,.int .i64 y,.int .i64 z] 26)).alloc (.cells aW 95)):=((Kp.refl _ _).alloc _).alloc _
 have afa:((bT ss a).1.map Value.bool).toArray.size=16:=by simp[kB]
 have hAI:(prog.info? 91).map (·.size)=some ((bT ss a).1.map Value.bool).toArray.size:=by rw[afa];exact ox
 have hA1:((bT ss a).1.map Value.bool).toArray.all (λx=>x.oneCell')=true:=by
  apply Array.all_eq_true_iff_forall_mem.2;intro v hv;simp only[List.mem_toArray,List.mem_map]at hv;obtain⟨c,_,rfl⟩:=hv;rfl
 have x8:=pL (jM ss p)
 have hPI:(prog.info? 93).map (·.size)=some (bf (bD ss p).1).toArray.size:=by rw[x8];exact kA
 have hP1:=wj (bD ss p).1;clear hS
 go_enter func79,ntmps79
 go_upto_region 1 with(fail)
 generalize (w.alloc (.cells #[.string a,.string p,.string t,.int .i64 x,.int .i64 y,.int .i64 z] 26)).alloc (.cells aW 95)=w2 at*;generalize Zt:w.heap.size+1=rb at*;generalize acA:w.heap.size=sb at*
 have cells:∀W:World,W.heap[sb]? =some (.cells #[.string a,.string p,.string t,.int .i64 x,.int .i64 y,.int .i64 z] 26)->W.cell? ⟨sb,0,none⟩=some (.string a)/\W.cell? ⟨sb,1,none⟩=some (.string p)/\W.cell? ⟨sb,2,none⟩=some (.string t)/\W.cell? ⟨sb,3,none⟩=some (.int .i64 x)/\W.cell? ⟨sb,4,none⟩=some (.int .i64 y)/\W.cell? ⟨sb,5,none⟩=some (.int .i64 z):=λW h=>by simp[World.cell?,h]
 have HC:=hid cells;clear cells;have c0:w2.cell? ⟨sb,0,none⟩=some (.string a):=(HC.out w2 hb2).1;have E1:=hid (AI ob oo w2 ss a ha hS2 hl)
 go_wp2_with fail
 refine hm E1 ?_;rintro xx w3 ⟨rfl,K3⟩;generalize hLA:((bT ss a).1.map Value.bool).toArray=LA at*;have HLA:=hid hLA;clear hLA;have nD:=heap_alloc_new w3 (.cells bL 91);have Kn:Kp (λ_=>False) w3 ((w3.alloc (.cells bL 91)).setRow w3.heap.size LA):=((Kp.refl _ _).alloc _).setRow (λx=>by omega) _;have K4:=K3.trans Kn;have hA4:=setRow_heap (w3.alloc (.cells bL 91)) w3.heap.size bL LA 91 (0,0) nD;have hb4:=K4.at_ hb2 (λx=>x);have hr4:=K4.at_ hr2 (λx=>x);have pM:=hS2.keep K4 (λx=>x) (λ_ _ _ x=>x);have K5:=K2.trans K4;clear E1 c0 hb2 hr2 hS2 K2 K3 Kn K4
 go_upto_region 2 with(refine wpList_store_row rfl 91 (.tmp 6) (.tmp 14) rfl w3.heap.size LA rfl rfl 91 bL nD hAI afa.symm hA1 ?_)
 generalize (w3.alloc (.cells bL 91)).setRow w3.heap.size LA=w4 at*;clear nD;generalize w3.heap.size=ab at*
 cases q1:(bT ss a).2 with
 |false=>
  have HV:=hid (show Ch.take ss a p t x y z=(false,jH)by simp[Ch.take,q1]);have KZ:=K5.setRow (g:=rb) (λx=>by omega) lK
  go_wp2_with (refine wpList_store_row rfl 95 (.tmp 4) (.tmp 18) rfl rb lK rfl rfl 95 aW hr4 bV rfl vo ?_)
  refine bodyPost_ret (results_cell_tmp rfl _ _ rb 95 lK (0,0) ds rfl (setRow_heap _ _ _ _ _ _ hr4) hds eY bV) rfl ?_;rw[HV.out];exact⟨rfl,KZ⟩
 |true=>?_
 have c1:w4.cell? ⟨sb,1,none⟩=some (.string p):=(HC.out w4 hb4).2.1;have E2:=hid (Gl ob oo w4 ss p hp pM hl)
 go_wp2_with fail
 refine hm E2 ?_;rintro xx w5 ⟨rfl,K6⟩;generalize hLP:(bf (bD ss p).1).toArray=LP at*;have HLP:=hid hLP;clear hLP;have od:=heap_alloc_new w5 (.cells fm 93);have Kn:Kp (λ_=>False) w5 ((w5.alloc (.cells fm 93)).setRow w5.heap.size LP):=((Kp.refl _ _).alloc _).setRow (λx=>by omega) _;have K7:=K6.trans Kn;have hP6:=setRow_heap (w5.alloc (.cells fm 93)) w5.heap.size fm LP 93 (0,0) od;have hb6:=K7.at_ hb4 (λx=>x);have s9:=K7.at_ hr4 (λx=>x);have hA6:=K7.at_ hA4 (λx=>x);have K8:=K5.trans K7;clear E2 c1 hb4 hr4 hA4 pM K5 K6 Kn K7
 go_upto_region 5 with(refine wpList_store_row rfl 93 (.tmp 8) (.tmp 24) rfl w5.heap.size LP rfl rfl 93 fm od hPI x8.symm hP1 ?_)
 generalize (w5.alloc (.cells fm 93)).setRow w5.heap.size LP=w6 at*;clear od;generalize w5.heap.size=pb at*
 cases q2:(bD ss p).2 with
 |false=>
  have HV:=hid (show Ch.take ss a p t x y z=(false,jH)by simp[Ch.take,q1,q2]);have KZ:=K8.setRow (g:=rb) (λx=>by omega) lK
  go_wp2_with (refine wpList_store_row rfl 95 (.tmp 4) (.tmp 28) rfl rb lK rfl rfl 95 aW s9 bV rfl vo ?_)
  refine bodyPost_ret (results_cell_tmp rfl _ _ rb 95 lK (0,0) ds rfl (setRow_heap _ _ _ _ _ _ s9) hds eY bV) rfl ?_;rw[HV.out];exact⟨rfl,KZ⟩
 |true=>?_
 obtain⟨_,_,c2,c3,c4,c5⟩:=HC.out w6 hb6;have ET:=hid (Df w6 t ht);have EX:=hid (ie w6 x);have EY:=hid (ie w6 y);have EZ:=hid (ie w6 z)
 go_wp2_with fail
 refine hm ET ?_;rintro xx w7 ⟨rfl,e7⟩;rw[e7];clear e7 w7
 cases qt:j2 t with
 |false=>
  have HV:=hid (show Ch.take ss a p t x y z=(false,jH)by simp[Ch.take,q1,q2,qt]);have KZ:=K8.setRow (g:=rb) (λx=>by omega) lK
  go_wp2_with (refine wpList_store_row rfl 95 (.tmp 4) (.tmp 52) rfl rb lK rfl rfl 95 aW s9 bV rfl vo ?_)
  refine bodyPost_ret (results_cell_tmp rfl _ _ rb 95 lK (0,0) ds rfl (setRow_heap _ _ _ _ _ _ s9) hds eY bV) rfl ?_;rw[HV.out];exact⟨rfl,KZ⟩
 |true=>?_
 go_wp2_with fail
 refine hm EX ?_;rintro xx w7 ⟨rfl,e7⟩;rw[e7];clear e7 w7
 cases qx:jU x with
 |false=>
  have HV:=hid (show Ch.take ss a p t x y z=(false,jH)by simp[Ch.take,q1,q2,qt,qx]);have KZ:=K8.setRow (g:=rb) (λx=>by omega) lK
  go_wp2_with (refine wpList_store_row rfl 95 (.tmp 4) (.tmp 52) rfl rb lK rfl rfl 95 aW s9 bV rfl vo ?_)
  refine bodyPost_ret (results_cell_tmp rfl _ _ rb 95 lK (0,0) ds rfl (setRow_heap _ _ _ _ _ _ s9) hds eY bV) rfl ?_;rw[HV.out];exact⟨rfl,KZ⟩
 |true=>?_
 go_wp2_with fail
 refine hm EY ?_;rintro xx w7 ⟨rfl,e7⟩;rw[e7];clear e7 w7
 cases qy:jU y with
 |false=>
  have HV:=hid (show Ch.take ss a p t x y z=(false,jH)by simp[Ch.take,q1,q2,qt,qx,qy]);have KZ:=K8.setRow (g:=rb) (λx=>by omega) lK
  go_wp2_with (refine wpList_store_row rfl 95 (.tmp 4) (.tmp 52) rfl rb lK rfl rfl 95 aW s9 bV rfl vo ?_)
  refine bodyPost_ret (results_cell_tmp rfl _ _ rb 95 lK (0,0) ds rfl (setRow_heap _ _ _ _ _ _ s9) hds eY bV) rfl ?_;rw[HV.out];exact⟨rfl,KZ⟩
 |true=>?_
 go_wp2_with fail
 refine hm EZ ?_;rintro xx w7 ⟨rfl,e7⟩;rw[e7];clear e7 w7
 cases qz:jU z with
 |false=>
  have HV:=hid (show Ch.take ss a p t x y z=(false,jH)by simp[Ch.take,q1,q2,qt,qx,qy,qz]);have KZ:=K8.setRow (g:=rb) (λx=>by omega) lK
  go_wp2_with (refine wpList_store_row rfl 95 (.tmp 4) (.tmp 52) rfl rb lK rfl rfl 95 aW s9 bV rfl vo ?_)
  refine bodyPost_ret (results_cell_tmp rfl _ _ rb 95 lK (0,0) ds rfl (setRow_heap _ _ _ _ _ _ s9) hds eY bV) rfl ?_;rw[HV.out];exact⟨rfl,KZ⟩
 |true=>?_
 have HV:=hid (show Ch.take ss a p t x y z=(true,⟨(bT ss a).1,(bD ss p).1,t,x,y,z⟩)by simp[Ch.take,q1,q2,qt,qx,qy,qz])
 have hwf:(Sd.mk (bT ss a).1 (bD ss p).1 t x y z).Wf:=⟨kB ss a,jM ss p⟩
 have HB0:prog.built 95 [(0,.agg ((bT ss a).1.map Value.bool).toArray),(1,.agg (bf (bD ss p).1).toArray),(2,.string t),(3,.int .i64 x),(4,.int .i64 y),(5,.int .i64 z)]=some (ax (Sd.mk (bT ss a).1 (bD ss p).1 t x y z)).toArray:=IW _ hwf;rw[HLA.out,HLP.out]at HB0;have hsI:=fG hwf;have acq:=gz hwf;have hs1:=j3 (Sd.mk (bT ss a).1 (bD ss p).1 t x y z);generalize hM:(ax (Sd.mk (bT ss a).1 (bD ss p).1 t x y z)).toArray=M at*;have HM:=hid hM;have HB:=hid HB0;clear hM hwf HB0 ET EX EY EZ;have KZ:=K8.setRow (g:=rb) (λx=>by omega) M
 go_wp2_with (first|refine wpList_load_row rfl 91 (.tmp 6) rfl ab rfl 91 LA (0,0) de hA6 hde (by cases de<;>simp_all [ak]) hAI ?_|refine wpList_load_row rfl 93 (.tmp 8) rfl pb rfl 93 LP (0,0) dm hP6 hdm (by cases dm<;>simp_all [ak]) hPI ?_|(refine bX rfl 95 #[(0,.tmp 53),(1,.tmp 54),(2,.tmp 56),(3,.tmp 58),(4,.tmp 60),(5,.tmp 62)] rfl M [(0,.agg LA),(1,.agg LP),(2,.string t),(3,.int .i64 x),(4,.int .i64 y),(5,.int .i64 z)] ?_ HB.out ?_;rfl)|refine wpList_store_row rfl 95 (.tmp 4) (.tmp 63) rfl rb M rfl rfl 95 aW s9 hsI acq.symm hs1 ?_)
 refine bodyPost_ret (results_cell_tmp rfl _ _ rb 95 M (0,0) ds rfl (setRow_heap _ _ _ _ _ _ s9) hds eY hsI) rfl ?_;rw[HV.out];exact⟨by rw[<-HM.out];rfl,KZ⟩
end
end Go.Proofs.YtnlbchmfcebeeaaGreat
