import Derived.Test.YtnlbchmfcebeeaaGreatTSc
set_option maxHeartbeats 12800000
set_option maxRecDepth 100000
namespace Go.Proofs.YtnlbchmfcebeeaaGreat
open Go.Proofs.Tryz Ch
open Go.RowKit
namespace Ch
theorem aa0{j:Nat}{t:ByteArray}{a:Int}(h:(gu j t a).2=0):a<=(j:Int)/\(j:Int)-(t.size:Int)<=a/\(gu j t a).1.size<=8:=by
 unfold gu at*
 split at h
 ·simp at h
 split at h
 ·simp at h
 rename_i h1 h2;refine⟨by omega,by omega,?_⟩;rw[if_neg h1,if_neg h2]
 split
 ·simp[ByteArray.size_extract];omega
 rename_i h3;simp[ByteArray.size_extract];omega
def vg(x:Sv)(t:Tk):Int:=if t.at_<0 then(x.made:Int)-1 else t.at_
def mC(x:Sv)(u:Nat)(t:Tk):Sv×Rp×Bool:=
 if(x.made:Int)-1<vg x t then(x,ib x 14,true)
 else if(qT x.kept (vg x t)).2 then({x with kept:=(qT x.kept (vg x t)).1,tasks:=x.tasks.set u {t with pinned:=vg x t}},dR,false)
 else(x,ib x 15,true)
theorem Px{l:List Vr}{n:Int}(h:(qT l n).2=false):(qT l n).1=l:=by
 unfold qT at*
 split at h
 ·simp at h
 rfl
end Ch
theorem bh{fn:Func}{p q:Tmp}(h:fn.results= #[.cell p 64,.tmp q])(tmps:Array Value)(w:World)(g:Nat)(r:Rp)(hp:tmps.getD p undef= .pointer (some ⟨g,0,none⟩))(hg:w.heap[g]? =some (.cells (bW r) 64 (0,0))):
 (results fn tmps).run prog w= .ok (.tuple #[.agg (bW r),tmps.getD q undef]) w:=by
 obtain⟨dr,hdr,kK⟩:=vf;exact results_cell_tmp h tmps w g 64 (bW r) (0,0) dr hp hg hdr kK bK
section
variable (w:World) {xb tb:Nat} {T:TypeId} {pc:Pc} {ol:Ol} {x:Sv} {kv:Value}
theorem Yk(h:dT w xb tb T pc ol x kv)(hbd:x.Bd)(a:Int):
 Calls prog 140 #[.pointer (some ⟨xb,0,none⟩),.int .i64 a] w λr w'=>r= .returned (.agg (bW (qU x a)))/\Kp (λ_=>False) w w':=by
 obtain⟨dr,hdr,kK⟩:=vf;have K1:Kp (λ_=>False) w (w.alloc (.cells aM 64)):=(Kp.refl _ _).alloc _;have hnew:=heap_alloc_new w (.cells aM 64);have h1:=h.ai K1;have E:=hid (Pv (w.alloc (.cells aM 64)) (jo:=7) (joined:=x.joined) (tail:=x.tail) h1.blk rfl rfl a hbd.tail hbd.tj hbd.joined)
 have HU:=hid (show qU x a=if(gu x.joined x.tail a).2 !=0 then ib x (gu x.joined x.tail a).2
  else {dR with ia:=(x.made:Int)-1,next:=a+((gu x.joined x.tail a).1.size:Int),text:=(gu x.joined x.tail a).1}from rfl)
 have htk:(gu x.joined x.tail a).2=0->a<=(x.joined:Int)/\(x.joined:Int)-(x.tail.size:Int)<=a/\(gu x.joined x.tail a).1.size<=8:=aa0;have htj:=hbd.tj;have hj:=hbd.joined;have hmd:=hbd.made;have HH:=hid (ae h1 K1);clear h h1 K1;generalize gu x.joined x.tail a=tt at*;obtain⟨tx,te⟩:=tt;simp only at*
 go_enter func140,ntmps140
 go_upto_region 1 with(fail)
 generalize w.alloc (.cells aM 64)=w1 at*
 go_wp2_with fail
 refine hm E ?_;rintro r w2 ⟨rfl,K2⟩;have hn2:=K2.at_ hnew (λx=>x);have h2:=HH.out.1.ai K2;have KA:=HH.out.2.trans K2;clear E hnew
 cases q1:te !=0 with
 |true=>
  have HF:=hid (HU.out.trans (show _=ib x te by rw[q1];rfl));have E2:=hid (lZ w2 h2 (by omega) te);clear HU htk
  go_wp2_with fail
  refine hm E2 ?_;rintro r w3 ⟨rfl,K3⟩;have nD:=K3.at_ hn2 (λx=>x);have KF:=(KA.trans K3).setRow (g:=w.heap.size) (λx=>by omega) (bW (ib x te));have ir:=setRow_heap w3 w.heap.size aM (bW (ib x te)) 64 (0,0) nD;clear E2 h2 K2 K3 hn2 KA
  go_wp2_with (refine wpList_store_row rfl 64 (.tmp 4) (.tmp 19) rfl w.heap.size (bW (ib x te)) rfl rfl 64 aM nD bK rfl (fC _) ?_)
  refine bodyPost_ret (results_cell_row rfl _ _ w.heap.size 64 (bW (ib x te)) (0,0) dr rfl ir hdr (by cases dr<;>first|rfl|exact absurd kK (by simp[ak])) bK) rfl ?_;rw[HF.out];exact⟨rfl,KF⟩
 |false=>?_
 have hte:te=0:=by simpa using q1
 subst hte;obtain⟨ha1,ha2,ha3⟩:=htk rfl;have HF:=hid (HU.out.trans (show _={dR with ia:=(x.made:Int)-1,next:=a+(tx.size:Int),text:=tx}by rw[q1];rfl));have E2:=hid (lD w2 h2.shelf (by omega));generalize rY:{dR with ia:=(x.made:Int)-1,next:=a+(tx.size:Int),text:=tx}=RP at*;have KF:=KA.setRow (g:=w.heap.size) (λx=>by omega) (bW RP);have ir:=setRow_heap w2 w.heap.size aM (bW RP) 64 (0,0) hn2;clear HU htk K2 KA h2;have HR:=hid rY;clear rY
 go_wp2_with fail
 refine hm E2 ?_;rintro r w3 ⟨rfl,rfl⟩;clear E2
 go_wp2_with (refine wpList_store_row rfl 64 (.tmp 4) (.tmp 29) rfl w.heap.size (bW RP) rfl (by rw[<-HR.out];rfl) 64 aM hn2 bK rfl (fC _) ?_)
 refine bodyPost_ret (results_cell_row rfl _ _ w.heap.size 64 (bW RP) (0,0) dr rfl ir hdr (by cases dr<;>first|rfl|exact absurd kK (by simp[ak])) bK) rfl ?_;rw[HF.out];exact⟨rfl,KF⟩
theorem Py(h:dT w xb tb T pc ol x kv)(hbd:x.Bd){u:Nat}{t:Tk}(hu:x.tasks[u]? =some t):
 Calls prog 187 #[.pointer (some ⟨xb,0,none⟩),.pointer (some ⟨tb,u*45,none⟩)] w λr w'=>r= .returned (.tuple #[.agg (bW (mC x u t).2.1),.bool (mC x u t).2.2])/\gL w w' xb tb T pc ol kv (mC x u t).1:=by
 have K1:Kp (λ_=>False) w (w.alloc (.cells aM 64)):=(Kp.refl _ _).alloc _;have hnew:=heap_alloc_new w (.cells aM 64);have h1:=h.ai K1;have hmd:=hbd.made;have hxs:=lt_of_block h.blk;have hts:=lt_of_block h.rX
 have hks:∀k,kv.ownBlock=some k->k<w.heap.size:=λk e=>by
  obtain⟨cur,hc⟩:=br h.row e;exact lt_of_block hc
 have hwf:=h.tWf hu;have c2:(w.alloc (.cells aM 64)).cell? ⟨tb,u*45+2,none⟩=some (.int .i64 t.at_):=h1.gW hu (by omega);have E1:=hid (lD (w.alloc (.cells aM 64)) h1.shelf (by omega))
 have HU:=hid (show mC x u t=if(x.made:Int)-1<vg x t then(x,ib x 14,true)
  else if(qT x.kept (vg x t)).2 then({x with kept:=(qT x.kept (vg x t)).1,tasks:=x.tasks.set u {t with pinned:=vg x t}},dR,false)
  else(x,ib x 15,true)from rfl)
 have HW:=hid (show vg x t=if t.at_<0 then(x.made:Int)-1 else t.at_ from rfl);have HH:=hid (ae h1 (ae K1 (ae h (ae hbd hu))));clear h h1 K1 hbd hu;generalize mC x u t=TS at*;generalize vg x t=wv at*
 go_enter func187,ntmps187
 go_upto_region 1 with(fail)
 generalize w.alloc (.cells aM 64)=w1 at*
 go_upto_if 13 with(fail)
 go_cut [6,13]from 14 to 17 (λn _ wx=>n= .int .i64 wv/\wx=w1)
 case first=>
  by_cases q:t.at_<0
  ·go_wp2_with fail
   refine hm E1 ?_;rintro r w3 ⟨rfl,rfl⟩;clear E1
   go_wp2_with fail
   go_meet
   exact⟨by rw[HW.out,if_pos q],rfl⟩
  go_wp2_with fail
  go_meet
  exact⟨by rw[HW.out,if_neg (by omega)],rfl⟩
 case rest=>
  obtain⟨rfl,rfl⟩:=hcut
  by_cases q1:(x.made:Int)-1<wv
  ·have HF:=hid (HU.out.trans (if_pos q1))
   have E2:=hid (lZ wc HH.out.1 (by omega) 14);clear HU HW
   go_wp2_with fail
   refine hm E1 ?_;rintro r w3 ⟨rfl,rfl⟩;clear E1
   go_wp2_with fail
   refine hm E2 ?_;rintro r w4 ⟨rfl,K4⟩;have kU:=K4.at_ hnew (λx=>x);have h4:=(HH.out.1.ai K4).setOther kU (.inl rfl) (bW (ib x 14));have KF:=((HH.out.2.1.trans K4).mono (S':=oN xb tb kv) (λ_ _ x=>x.elim)).setRow (g:=w.heap.size) (λx=>by omega) (bW (ib x 14));have ir:=setRow_heap w4 w.heap.size aM (bW (ib x 14)) 64 (0,0) kU;have HK:=hid (ae h4 KF);clear E2 K4 h4 KF hnew
   go_wp2_with (refine wpList_store_row rfl 64 (.tmp 4) (.tmp 25) rfl w.heap.size (bW (ib x 14)) rfl rfl 64 aM kU bK rfl (fC _) ?_)
   refine bodyPost_ret (bh rfl _ _ w.heap.size _ rfl ir) rfl ?_;rw[HF.out];exact⟨rfl,gL.of HK.out.1 HK.out.2⟩
  have HV:=hid (HU.out.trans (if_neg q1));have EP:=hid (aaX wc HH.out.1.shelf HH.out.2.2.2.1.LI wv (λv hv=>(HH.out.2.2.2.1.nums v hv).2));have hpf:(qT x.kept wv).2=false->(qT x.kept wv).1=x.kept:=Px;clear HU HW;generalize qT x.kept wv=pp at*;obtain⟨pk,pb⟩:=pp;simp only at*
  go_wp2_with fail
  refine hm E1 ?_;rintro r w3 ⟨rfl,rfl⟩;clear E1
  go_wp2_with fail
  refine hm EP ?_;rintro r w4 ⟨rfl,s4,K4⟩;have h4:=HH.out.1.aaZ K4 s4;have kU:=K4.at_ hnew (λe=>by have:=hks _ e;omega);have KA:Kp (oN xb tb kv) w w4:=(HH.out.2.1.mono (λ_ _ x=>x.elim)).trans' K4 (λi _ e=>.inr (.inr e));clear EP K4 s4
  cases pb with
  |false=>
   have HF:=hid (HV.out.trans (if_neg (by simp)));have hpk:=hpf rfl;subst hpk;have E2:=hid (lZ w4 h4 (by exact Nat.le_trans hmd (by omega)) 15);have HX:=hid (ae h4 KA);clear HV h4 KA hpf
   go_wp2_with fail
   refine hm E2 ?_;rintro r w5 ⟨rfl,K5⟩;have od:=K5.at_ kU (λx=>x);have h5:=(HX.out.1.ai K5).setOther od (.inl rfl) (bW (ib x 15));have KF:=(HX.out.2.trans' K5 (λ_ _ x=>x.elim)).setRow (g:=w.heap.size) (λx=>by omega) (bW (ib x 15));have ir:=setRow_heap w5 w.heap.size aM (bW (ib x 15)) 64 (0,0) od;have HK:=hid (ae h5 KF);clear E2 K5 h5 KF hnew kU
   go_wp2_with (refine wpList_store_row rfl 64 (.tmp 4) (.tmp 34) rfl w.heap.size (bW (ib x 15)) rfl rfl 64 aM od bK rfl (fC _) ?_)
   refine bodyPost_ret (bh rfl _ _ w.heap.size _ rfl ir) rfl ?_;rw[HF.out];exact⟨rfl,gL.of HK.out.1 HK.out.2⟩
  |true=>?_
  have HF:=hid (HV.out.trans (if_pos rfl));have c44:w4.cell? ⟨tb,u*45+44,none⟩=some (.int .i64 t.pinned):=(h4.gW HH.out.2.2.2.2 (by omega)).trans (lY hwf 2);have f44:=h4.FJ (u*45+44);have h5:=h4.Yi (t':={t with pinned:=wv}) HH.out.2.2.2.2 hwf 44 (by omega) (.int .i64 wv) (tX (t':={t with pinned:=wv}) hwf rfl rfl 2 _ rfl);have K5:Kp (oN xb tb kv) w (w4.setCell ⟨tb,u*45+44,none⟩ (.int .i64 wv)):=KA.setCell (p:=⟨tb,u*45+44,none⟩) (λ_=>.inr (.inl rfl)) _
  have od:(w4.setCell ⟨tb,u*45+44,none⟩ (.int .i64 wv)).heap[w.heap.size]? =some (.cells aM 64 (0,0)):=by
   rw[Below.heap_setCell _ _ _ _ (by show w.heap.size≠tb;omega)];exact kU
  have h6:=h5.setOther od (.inl rfl) aM;have KF:=K5.setRow (g:=w.heap.size) (λx=>by omega) aM;have ir:=setRow_heap _ w.heap.size aM aM 64 (0,0) od;have HK:=hid (ae h6 KF);clear HV h4 KA hpf h5 K5 h6 KF hnew kU
  go_wp2_with (refine wpList_store_row rfl 64 (.tmp 4) (.tmp 39) rfl w.heap.size aM rfl rfl 64 aM od bK rfl (fC dR) ?_)
  refine bodyPost_ret (bh rfl _ _ w.heap.size dR rfl ir) rfl ?_;rw[HF.out];exact⟨rfl,gL.of HK.out.1 HK.out.2⟩
end
namespace Ch
def atK(l:List Vr)(n:Int):Option (Nat×Vr):=match l.findIdx? (λv=>(v.num:Int)==n)with
 |some k=>l[k]?.map (λv=>(k,v))
 |none=>none
theorem QZ{l:List Vr}{k:Nat}{v:Vr}(hv:l[k]? =some v)(hd:∀j u,l[j]? =some u->u.num=v.num->j=k):atK l v.num=some (k,v):=by
 obtain⟨hi1,hi2⟩:=List.getElem?_eq_some_iff.1 hv
 have e:l.findIdx? (λu=>(u.num:Int)==(v.num:Int))=some k:=by
  rw[List.findIdx?_eq_some_iff_getElem];refine⟨hi1,by rw[hi2];simp,?_⟩;intro j hj;have:=hd j _ (List.getElem?_eq_getElem (by omega));simp;intro e;have:=this (by omega);omega
 unfold atK;rw[e];simp only[hv,Option.map_some]
def UG(made:Nat)(l:List Vr)(n:Int):List Vr:=match atK l n with|some (k,v)=>DU made l k v|none=>kJ made l
def FK(l:List Vr)(n:Int):Sd:=match atK l n with|some (_,v)=>v.now|none=>vJ
def bQ(t:Tk):Tk:={t with steps:=t.steps+1}
def ay(x:Sv)(u:Nat)(t:Tk):Sv:={x with tasks:=x.tasks.set u t}
def mD(ol:Ol)(x:Sv)(u:Nat)(t:Tk):Sv×Rp×Bool:=
 if t.steps=0 then mC (ay x u (bQ t)) u (bQ t)
 else if t.steps=1 then(ay x u (bQ t),dR,false)
 else({ay x u (bQ t)with kept:=UG x.made x.kept t.pinned},{dR with ia:=t.pinned,st:=aH ol.ag (FK x.kept t.pinned)},true)
theorem aa1{made:Nat}{l:List Vr}{k:Nat}{v:Vr}(h:∀v∈l,v.now.Wf)(hv:l[k]? =some v):∀u∈DU made l k v,u.now.Wf:=by
 intro u hu;have hu:=(List.mem_filter.1 hu).1
 rcases List.mem_or_eq_of_mem_set hu with hu|rfl
 ·exact h u hu
 exact h v (List.mem_of_getElem? hv)
end Ch
section
variable {w w':World} {xb tb:Nat} {T:TypeId} {pc:Pc} {ol:Ol} {x:Sv} {kv:Value}
theorem dT.agY(h:dT w xb tb T pc ol x kv){l:List Vr}(hl:∀v∈l,v.now.Wf)(q:UF w w' 0 xb 5 (sM pc x kv tb) T kv l):gL w w' xb tb T pc ol kv {x with kept:=l}:=by
 obtain⟨kq,q1,q2,q3,q4⟩:=q;have KB:Kp (oN xb tb kv) w w':=q4.mono (λi _ s=>s.elim (λs=>.inl s) (λs=>.inr (.inr s)));refine⟨kq,⟨?_,q2,?_,hl,h.tw,h.ty,h.plS KB⟩,λk e=>.inr (q3 k e),KB⟩
 ·rw[q1]
  simp[sM]
 exact q4.at_ h.rX (by
  rintro(e|e)
  ·exact h.neT e.symm
  exact h.kvT e)
theorem UF.gW{l:List Vr}{C:Array Value}(h:dT w xb tb T pc ol x kv)(q:UF w w' 0 xb 5 C T kv l)(j:Nat):w'.cell? ⟨tb,j,none⟩=w.cell? ⟨tb,j,none⟩:=by
 obtain⟨kq,q1,q2,q3,q4⟩:=q
 have:=q4.block tb (lt_of_block h.rX) (by
  rintro(e|e)
  ·exact h.neT e.symm
  exact h.kvT e)
 unfold World.cell?;simp only;rw[this]
theorem gL.stand{w2 w5:World}{x':Sv}(K:Kp (λ_=>False) w w2)(q:gL w2 w5 xb tb T pc ol kv x'){g:Nat}(hg:w.heap.size<=g){c:Array Value}(hn:w5.heap[g]? =some (.cells c 95 (0,0)))(cs:Array Value):gL w (w5.setRow g cs) xb tb T pc ol kv x':=by
 obtain⟨kq,h4,n4,K4⟩:=q;exact⟨kq,h4.setOther hn (.inr rfl) cs,λk e=>(n4 k e).imp id (Nat.le_trans K.size),((K.mono (λ_ _ x=>x.elim)).trans' K4 (λ_ _ s=>s)).setRow (λx=>by omega) cs⟩
theorem gL.alloc{x':Sv}(q:gL w w' xb tb T pc ol kv x')(o:Obj):gL w (w'.alloc o) xb tb T pc ol kv x':=by
 obtain⟨kq,h4,n4,K4⟩:=q;exact⟨kq,h4.ai ((Kp.refl _ _).alloc _),n4,K4.alloc _⟩
theorem gL.ai{w'':World}{x':Sv}(q:gL w w' xb tb T pc ol kv x')(K:Kp (λ_=>False) w' w''):gL w w'' xb tb T pc ol kv x':=by
 obtain⟨kq,h4,n4,K4⟩:=q;exact⟨kq,h4.ai K,n4,K4.trans' K (λ_ _ x=>x.elim)⟩
end
section
variable (w:World) {xb tb:Nat} {pc:Pc} {ol:Ol} {x:Sv} {kv:Value}
theorem Ij(h:dT w xb tb 138 pc ol x kv)(hbd:x.Bd)(hol:ol.Ok){u:Nat}{t:Tk}(hu:x.tasks[u]? =some t)(hst:t.steps<=1000)(aa2:2<=t.steps->∃(k:Nat) (v:Vr),x.kept[k]? =some v/\t.pinned=(v.num:Int)/\0<v.pins/\∀(j:Nat) (u:Vr),x.kept[j]? =some u->u.num=v.num->j=k):
 Calls prog 139 #[.pointer (some ⟨xb,0,none⟩),.pointer (some ⟨tb,u*45,none⟩)] w λr w'=>r= .returned (.tuple #[.agg (bW (mD ol x u t).2.1),.bool (mD ol x u t).2.2])/\gL w w' xb tb 138 pc ol kv (mD ol x u t).1:=by
 have K1:Kp (λ_=>False) w (w.alloc (.cells aM 64)):=(Kp.refl _ _).alloc _;have hnew:=heap_alloc_new w (.cells aM 64);have h1:=h.ai K1;have hlow:=h.low;have hts:=lt_of_block h.rX;have hwf:=h.tWf hu;have c43:(w.alloc (.cells aM 64)).cell? ⟨tb,u*45+43,none⟩=some (.int .i64 t.steps):=(h1.gW hu (by omega)).trans (lY hwf 1);have f43:=h1.FJ (u*45+43)
 have es:((t.steps+1:Nat):Int)=(t.steps:Int)+1:=by omega
 have h2:=h1.Yi (t':=bQ t) hu hwf 43 (by omega) (.int .i64 ((t.steps:Int)+1)) (tX (t':=bQ t) hwf rfl rfl 1 _ (by rw[<-es];rfl));have K2:Kp (oN xb tb kv) w ((w.alloc (.cells aM 64)).setCell ⟨tb,u*45+43,none⟩ (.int .i64 ((t.steps:Int)+1))):=(K1.mono (λ_ _ x=>x.elim)).setCell (p:=⟨tb,u*45+43,none⟩) (λ_=>.inr (.inl rfl)) _
 have hn2:((w.alloc (.cells aM 64)).setCell ⟨tb,u*45+43,none⟩ (.int .i64 ((t.steps:Int)+1))).heap[w.heap.size]? =some (.cells aM 64 (0,0)):=by
  rw[Below.heap_setCell _ _ _ _ (by show w.heap.size≠tb;omega)];exact hnew
 have hlt:=(List.getElem?_eq_some_iff.1 hu).1
 have hu2:(ay x u (bQ t)).tasks[u]? =some (bQ t):=by unfold ay;simp only;rw[List.getElem?_set_self hlt]
 have agZ:(ay x u (bQ t)).Bd:=⟨hbd.made,hbd.LI,hbd.nums,hbd.joined,hbd.tail,hbd.tj,hbd.tick,hbd.turn,by unfold ay;simp only[List.length_set];exact hbd.tasks⟩
 have HU:=hid (show mD ol x u t=if t.steps=0 then mC (ay x u (bQ t)) u (bQ t)
  else if t.steps=1 then(ay x u (bQ t),dR,false)
  else({ay x u (bQ t)with kept:=UG x.made x.kept t.pinned},{dR with ia:=t.pinned,st:=aH ol.ag (FK x.kept t.pinned)},true)from rfl)
 change dT _ xb tb _ pc ol (ay x u (bQ t)) kv at h2
 generalize mD ol x u t=RS at*;have HH:=hid (ae hbd (ae hol (ae hu2 (ae agZ (ae aa2 h.wf)))));have ad1:(bQ t).now.Wf:=hwf;clear h h1 K1 hbd hu hu2 agZ aa2 hol
 go_enter func139,ntmps139
 go_upto_region 1 with(fail)
 generalize w.alloc (.cells aM 64)=w1 at*
 go_upto_region 2 with(fail)
 generalize w1.setCell ⟨tb,u*45+43,none⟩ (.int .i64 ((t.steps:Int)+1))=w2 at*
 have d43:w2.cell? ⟨tb,u*45+43,none⟩=some (.int .i64 ((t.steps:Int)+1)):=by
  have:=(h2.gW HH.out.2.2.1 (j:=43) (by omega)).trans (lY ad1 1);rw[this];show some (Value.int .i64 ((t.steps+1:Nat):Int))=_;rw[es]
 clear c43 f43 hnew es
 by_cases q0:t.steps=0
 ·have HF:=hid (HU.out.trans (if_pos q0))
  have E:=hid (Py w2 h2 HH.out.2.2.2.1 HH.out.2.2.1);have HX:=hid (ae h2 K2)
  have hq:(t.steps:Int)+1=1:=by omega
  rw[hq]at d43;clear HU h2 K2 hq;generalize mC (ay x u (bQ t)) u (bQ t)=TS at*
  go_wp2_with fail
  refine hm E ?_;rintro r w4 ⟨rfl,q4⟩;have kU:=q4.at_ hlow hn2;have HQ:=hid (gL.jE HX.out.2 q4 kU (bW TS.2.1));have ir:=setRow_heap w4 w.heap.size aM (bW TS.2.1) 64 (0,0) kU;clear E q4 hn2
  go_wp2_with (refine wpList_store_row rfl 64 (.tmp 4) (.tmp 23) rfl w.heap.size (bW TS.2.1) rfl rfl 64 aM kU bK rfl (fC _) ?_)
  refine bodyPost_ret (bh rfl _ _ w.heap.size TS.2.1 rfl ir) rfl ?_;rw[HF.out];exact⟨rfl,HQ.out⟩
 by_cases q1:t.steps=1
 ·have HF:=hid (HU.out.trans ((if_neg q0).trans (if_pos q1)))
  have HQ:=hid (gL.jE K2 (gL.refl h2) hn2 aM);have ir:=setRow_heap w2 w.heap.size aM aM 64 (0,0) hn2
  have hq:(t.steps:Int)+1=2:=by omega
  rw[hq]at d43;clear HU h2 K2 hq
  go_wp2_with (refine wpList_store_row rfl 64 (.tmp 4) (.tmp 27) rfl w.heap.size aM rfl rfl 64 aM hn2 bK rfl (fC dR) ?_)
  refine bodyPost_ret (bh rfl _ _ w.heap.size dR rfl ir) rfl ?_;rw[HF.out];exact⟨rfl,HQ.out⟩
 obtain⟨k,v,hv,hpv,yi,hd⟩:=HH.out.2.2.2.2.1 (by omega);have HF:=hid (HU.out.trans ((if_neg q0).trans (if_neg q1)));rw[hpv]at HF;have hat:=QZ hv hd
 have er:UG x.made x.kept v.num=DU x.made x.kept k v:=by unfold UG;rw[hat]
 have es:FK x.kept v.num=v.now:=by unfold FK;rw[hat]
 rw[er,es]at HF;have hvw:=HH.out.2.2.2.2.2 v (List.mem_of_getElem? hv);have hrw:=aa1 (made:=x.made) HH.out.2.2.2.2.2 hv
 have ER:∀W,dT W xb tb 138 pc ol (ay x u (bQ t)) kv->Hid (Calls prog 188 #[.pointer (some ⟨xb,5,none⟩),.int .i64 v.num] W λr w'=>r= .returned (.agg (ax v.now).toArray)/\UF W w' 0 xb 5 (sM pc (ay x u (bQ t)) kv tb) 138 kv (DU x.made x.kept k v)):=
  λW h=>hid (LF W h.shelf HH.out.1.LI (Nat.le_trans HH.out.1.made (by omega)) k v hv yi hd HH.out.1.nums)
 have c44:w2.cell? ⟨tb,u*45+44,none⟩=some (.int .i64 v.num):=by
  rw[<-hpv];exact(h2.gW HH.out.2.2.1 (by omega)).trans (lY ad1 2)
 have hq1:(((t.steps:Int)+1)==1)=false:=by simp;omega
 have hq2:(((t.steps:Int)+1)==2)=false:=by simp;omega
 have sI:=fG hvw;have sS:=gz hvw;have sO:=j3 v.now
 have EQ:∀W w',dT W xb tb 138 pc ol (ay x u (bQ t)) kv->UF W w' 0 xb 5 (sM pc (ay x u (bQ t)) kv tb) 138 kv (DU x.made x.kept k v)->gL W w' xb tb 138 pc ol kv {ay x u (bQ t)with kept:=DU x.made x.kept k v}:=
  λW w' hW q=>hW.agY hrw q
 have akK:({ay x u (bQ t)with kept:=DU x.made x.kept k v}:Sv).tasks[u]? =some (bQ t):=HH.out.2.2.1;generalize ({ay x u (bQ t)with kept:=DU x.made x.kept k v}:Sv)=X2 at*;have HE:=hid (ae ER EQ);have HP:=hid hpv;clear HU q0 q1 hat er es hd hv ER EQ hrw hpv;generalize ye:(ax v.now).toArray=SA at*;have Nf:=hid ye;clear ye
 go_upto_region 7 with(fail)
 go_cut [6]from 28 to 35 (λp wx=>∃fb,p= .pointer (some ⟨fb,0,none⟩)/\du wx fb [] v.now [] 95/\gL w2 wx xb tb 138 pc ol kv X2)
 case first=>
  have hS0:w2.drew.cell? ⟨tb,u*45+44,none⟩=some (.int .i64 v.num):=c44;have pq:Kp (λ_=>False) w2 w2.drew:=(Kp.refl _ _).drewN 1;refine az (λw'=>w'.cell? ⟨tb,u*45+44,none⟩=some (.int .i64 v.num)) (by kernel_rfl) ?_;refine aU 0 28 (.pointer (some ⟨xb,0,none⟩)) hS0 ?_;refine aU 1 29 (.pointer (some ⟨xb,0,none⟩)) hS0 ?_;refine aU 2 30 (.pointer (some ⟨xb,5,none⟩)) hS0 ?_;refine aU 3 31 (.pointer (some ⟨tb,u*45,none⟩)) hS0 ?_;refine aU 4 32 (.pointer (some ⟨tb,u*45,none⟩)) hS0 ?_;refine aU 5 33 (.pointer (some ⟨tb,u*45+44,none⟩)) hS0 ?_;refine dM 6 34 (.int .i64 v.num) rfl (λw' hS=>by simp[execOp,Act.eval,go_sem,hS]) hS0 ?_;refine k6 7 8 (by kernel_rfl) rfl rfl rfl rfl ?_ ?_
  ·refine bS (some 35) rfl 188 #[.pointer (some ⟨xb,5,none⟩),.int .i64 v.num] (by simp[execOp,Act.eval,go_sem]) (.agg SA) _ (HE.out.1 w2.drew (h2.ai pq)).out ?_
   intro w5 q5
   have hS5:=((q5.gW (h2.ai pq) (u*45+44)).trans hS0)
   have Q5:=HE.out.2 _ _ (h2.ai pq) q5;have hnew:=heap_alloc_new w5 (.cells aW 95);have yz:(w5.alloc (.cells aW 95)).cell? ⟨tb,u*45+44,none⟩=some (.int .i64 v.num):=Kp.cell0 ((Kp.refl _ _).alloc _) hS5;have qE:((w5.alloc (.cells aW 95)).setRow w5.heap.size SA).cell? ⟨tb,u*45+44,none⟩=some (.int .i64 v.num):=Kp.cell0 (((Kp.refl _ _).alloc _).setRow (λx=>by omega) _) hS5;refine⟨hS5,?_⟩;refine jD 8 ?_;refine dZ (some 6) rfl (.pointer (some ⟨w5.heap.size,0,none⟩)) (w5.alloc (.cells aW 95)) (by simp[execOp,go_sem]) ?_;refine⟨yz,?_⟩;refine bF 9 (by kernel_rfl) rfl rfl 95 (.tmp 6) (.tmp 35) rfl rfl w5.heap.size SA (by simp[Act.eval,Act.put]) (by simp[Act.eval,Act.put]) 95 aW hnew sI (by rw[sS];rfl) sO qE ?_;refine wpAnyH_done (by kernel_rfl) (NoPanic.normal ?_) _;simp only[Act.put,pA,pB,pC]
   go_wp2_with fail
   go_meet
   have hsz:w2.heap.size<=w5.heap.size:=by obtain⟨_,_,_,K5⟩:=Q5;exact K5.size
   exact⟨w5.heap.size,rfl,du.th (by rw[Nf.out];exact setRow_heap _ _ _ _ _ _ hnew),gL.stand pq (Q5.alloc _) hsz hnew SA⟩
  refine dZ (some 6) rfl (.pointer (some ⟨w2.heap.size,0,none⟩)) (w2.drew.alloc (.cells aW 95)) (by simp[execOp,go_sem]) ?_;have hnew:=heap_alloc_new w2.drew (.cells aW 95);have Qh:=pq.alloc (.cells aW 95);have pM:(w2.drew.alloc (.cells aW 95)).cell? ⟨tb,u*45+44,none⟩=some (.int .i64 v.num):=Kp.cell0 Qh c44;refine⟨pM,?_⟩;refine jD 7 ?_;simp only[Act.put,pA,pB,pC];refine bS (some 35) rfl 188 #[.pointer (some ⟨xb,5,none⟩),.int .i64 v.num] (by simp[execOp,Act.eval,go_sem]) (.agg SA) _ (HE.out.1 _ (h2.ai Qh)).out ?_;intro w5 q5
  have hS5:=((q5.gW (h2.ai Qh) (u*45+44)).trans pM)
  have Q5:=HE.out.2 _ _ (h2.ai Qh) q5;have ab1:=h2.low;have kR:w5.heap[w2.heap.size]? =some (.cells aW 95 (0,0)):=Q5.at_ (n:=w2.heap.size) ab1 (by exact hnew)
  have qE:(w5.setRow w2.heap.size SA).cell? ⟨tb,u*45+44,none⟩=some (.int .i64 v.num):=by
   have hne:tb≠w2.heap.size:=by have:=ab1 tb (.inr (.inl rfl));omega
   unfold World.cell? at*;simp only at*;rw[setRow_other _ _ _ _ hne];exact hS5
  refine⟨hS5,?_⟩;refine bF 9 (by kernel_rfl) rfl rfl 95 (.tmp 6) (.tmp 35) rfl rfl w2.heap.size SA (by simp[Act.eval,Act.put]) (by simp[Act.eval,Act.put]) 95 aW kR sI (by rw[sS];rfl) sO qE ?_;refine wpAnyH_done (by kernel_rfl) (NoPanic.normal ?_) _;simp only[Act.put,pA,pB,pC]
  go_wp2_with fail
  go_meet
  exact⟨w2.heap.size,rfl,du.th (by rw[Nf.out];exact setRow_heap _ _ _ _ _ _ kR),gL.stand Qh Q5 (Nat.le_refl _) kR SA⟩
 case rest=>
  obtain⟨fb,rfl,GF,QC⟩:=hcut;have Y6:=QC.at_ hlow hn2;have QC':=QC;obtain⟨kvC,hC,nC,KC⟩:=QC
  have d44:wc.cell? ⟨tb,u*45+44,none⟩=some (.int .i64 v.num):=by
   rw[<-HP.out];exact(hC.gW akK (by omega)).trans (lY ad1 2)
  have KD:Kp (λ_=>False) wc wc.drew:=(Kp.refl _ _).drewN 1;have EO:=hid (lH xb 0 wc.drew ol.ag fb 0 [] v.now [] 95 (hC.ai KD).plan.str (Nat.le_trans HH.out.2.1.ag (by omega)) (du.keep GF KD (λx=>x)) hvw rfl);have HQ:=hid (ae K2 QC');generalize rY:({dR with ia:=(v.num:Int),st:=aH ol.ag v.now}:Rp)=RP at*;have HR:=hid rY;clear rY h2 K2 QC' GF d43 hn2 c44 HE
  go_upto_region 8 with(fail)
  have hS0:wc.drew.cell? ⟨tb,u*45+44,none⟩=some (.int .i64 v.num):=d44;refine az (λw'=>w'.cell? ⟨tb,u*45+44,none⟩=some (.int .i64 v.num)) (by kernel_rfl) ?_;refine aU 0 36 (.pointer (some ⟨tb,u*45,none⟩)) hS0 ?_;refine aU 1 37 (.pointer (some ⟨tb,u*45,none⟩)) hS0 ?_;refine aU 2 38 (.pointer (some ⟨tb,u*45+44,none⟩)) hS0 ?_;refine dM 3 39 (.int .i64 v.num) rfl (λw' hS=>by simp[execOp,Act.eval,go_sem,hS]) hS0 ?_;refine aU 4 40 (.pointer (some ⟨xb,0,none⟩)) hS0 ?_;refine aU 5 41 (.pointer (some ⟨xb,0,none⟩)) hS0 ?_;refine aU 6 42 (.pointer (some ⟨xb,0,none⟩)) hS0 ?_;refine jD 7 ?_;refine bS (some 43) rfl 44 #[.pointer (some ⟨fb,0,none⟩),.pointer (some ⟨xb,0,none⟩)] (by simp[execOp,Act.eval,go_sem]) (.agg (aN (aH ol.ag v.now))) _ EO.out ?_;intro w6 K6;have yz:=K6.cell0 hS0;have sK:=(KD.trans K6).at_ Y6 (λx=>x)
  have qE:(w6.setRow w.heap.size (bW RP)).cell? ⟨tb,u*45+44,none⟩=some (.int .i64 v.num):=by
   have hne:tb≠w.heap.size:=by omega
   unfold World.cell? at*;simp only at*;rw[setRow_other _ _ _ _ hne];exact yz
  refine⟨yz,?_⟩;refine eC 8 44 (.agg (bW RP)) rfl (λw' _=>fY 64 #[(1,.tmp 39),(4,.tmp 43)] rfl (bW RP) [(1,.int .i64 v.num),(4,.agg (aN (aH ol.ag v.now)))] (by simp[Act.eval,Act.put]) (by rw[<-HR.out];kernel_rfl)) yz ?_;refine bF 9 (by kernel_rfl) rfl rfl 64 (.tmp 4) (.tmp 44) rfl rfl w.heap.size (bW RP) (by simp[Act.eval,Act.put]) (by simp[Act.eval,Act.put]) 64 aM sK bK rfl (fC _) qE ?_;refine eC 10 5 (.bool true) rfl (λw' _=>by rfl) qE ?_;refine wpAnyH_done (by kernel_rfl) (NoPanic.normal ?_) _;simp only[Act.put,pA,pB,pC];have ir:=setRow_heap w6 w.heap.size aM (bW RP) 64 (0,0) sK;have HZ:=hid (gL.jE HQ.out.1 (HQ.out.2.ai (KD.trans K6)) sK (bW RP));clear yz qE hS0 K6 EO HQ
  go_wp2_with fail
  refine bodyPost_ret (bh rfl _ _ w.heap.size RP rfl ir) rfl ?_;rw[HF.out];exact⟨rfl,HZ.out⟩
end
end Go.Proofs.YtnlbchmfcebeeaaGreat
