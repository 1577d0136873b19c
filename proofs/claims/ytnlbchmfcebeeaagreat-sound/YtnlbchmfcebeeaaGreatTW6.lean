import Derived.Test.YtnlbchmfcebeeaaGreatTV3
set_option maxHeartbeats 12800000
set_option maxRecDepth 100000
namespace Go.Proofs.YtnlbchmfcebeeaaGreat
open Go.Proofs.Tryz Ch
open Go.RowKit
def Db(w:World)(pg:Nat)(P:List (Int×Int)):Prop:=∃cur:Array Value,w.heap[pg]? =some (.cells cur 113 (0,0))/\cur.toList.take (P.length*2)=ij P
section
variable {w w':World} {pg:Nat} {P:List (Int×Int)}
theorem Db.keep{S:Nat->Prop}(h:Db w pg P)(k:Kp S w w')(hs:¬S pg):Db w' pg P:=by
 obtain⟨cur,h1,h2⟩:=h;exact⟨cur,k.at_ h1 hs,h2⟩
theorem Db.ai(h:Db w pg P)(k:Kp (λ_=>False) w w'):Db w' pg P:=h.keep k (λx=>x)
theorem Db.lt(h:Db w pg P):pg<w.heap.size:=by
 obtain⟨cur,h1,_⟩:=h;exact lt_of_block h1
theorem Db.at_(h:Db w pg P){k:Nat}{q p:Int}(hk:P[k]? =some (q,p)):w.cell? ⟨pg,k*2,none⟩=some (.int .i64 q)/\w.cell? ⟨pg,k*2+1,none⟩=some (.int .i64 p):=by
 obtain⟨cur,h1,h2⟩:=h;have hlt:=(List.getElem?_eq_some_iff.1 hk).1;have hc:=Bu P k q p hk;rw[<-h2]at hc
 have hj:∀j v,j<P.length*2->(cur.toList.take (P.length*2))[j]? =some v->w.cell? ⟨pg,j,none⟩=some v:=by
  intro j v hj hv;rw[List.getElem?_take_of_lt hj]at hv;rw[World.cell?,h1];simpa using hv
 exact⟨hj _ _ (by omega) hc.1,hj _ _ (by omega) hc.2⟩
theorem Db.ne{sb:Nat}{a:As}(h:Db w pg P)(hs:jQ w sb a):pg≠sb:=by
 obtain⟨cur,h1,_⟩:=h;intro e;subst e;unfold jQ at hs;rw[h1]at hs;simp only[Option.some.injEq,Obj.cells.injEq]at hs;exact absurd hs.2.1 (by decide)
theorem Db.of{B:Nat}{pv:Value}(h:w.ownsRow B 113 2 pv P.length (ij P))(hP:1<=P.length):∃pg pcap,pv= .slice (some ⟨pg,0,none⟩) P.length pcap/\Db w pg P:=by
 rcases h.2 with⟨_,e2⟩|⟨g,cap,cur,e1,_,e3,_,_,_,e4⟩
 ·omega
 exact⟨g,cap,e1,cur,e3,e4⟩
theorem Qs.told{g n k:Nat}{ss:List St}(h:Qs w g n k ss){i:Nat}{s:St}(hi:i<k)(hs:ss[i]? =some s):
 w.cell? ⟨g,i*3,none⟩=some (.string (strOfNums [s.name]))/\w.cell? ⟨g,i*3+1,none⟩=some (.int .i64 s.kind)/\w.cell? ⟨g,i*3+2,none⟩=some (.int .i64 s.parent):=by
 obtain⟨C,hC,_,hx⟩:=h;have h0:=hx i s hi hs 0 (by omega);have h1:=hx i s hi hs 1 (by omega);have h2:=hx i s hi hs 2 (by omega);refine⟨?_,?_,?_⟩
 ·rw[World.cell?,hC];exact h0
 ·rw[World.cell?,hC];exact h1
 rw[World.cell?,hC];exact h2
end
section
variable (w:World)
theorem S3{T:ByteArray}{ol:Ol}{P:List (Int×Int)}{pg pcap:Nat}(hR:qw T ol)(hO:zF P ol)(hP:Db w pg P):
 Calls prog 28 #[.string T,.slice (some ⟨pg,0,none⟩) P.length pcap] w λx w'=>x= .returned (.bool true)/\Kp (λ_=>False) w w':=by
 have E0:=Es w T;rw[hR.rd]at E0;simp only at E0;replace E0:=hid E0;have h16:=hR.iP.le;rw[hO.len]at h16
 go_enter func28,ntmps28
 go_wp2_with fail
 refine hm E0 ?_;rintro x w1 ⟨v,rfl,_,hv,K1⟩;obtain⟨g,rfl,hg,hN⟩:=hv trivial;rw[hO.len]at hN⊢;have HN:=hid (ae hN (hP.ai K1));have HO:=hid hO;clear E0 hv hN hP hR hO
 go_wp2_with fail
 go_loopw [7] (λi wr=>∃k:Nat,i= .int .i64 k/\k<=P.length/\Kp (λ_=>False) w1 wr) (λi _=>P.length-(intOf i).toNat)
 case atStart=>exact⟨0,rfl,Nat.zero_le _,Kp.refl _ _⟩
 case round=>
  obtain⟨k,rfl,hk,KW⟩:=hrel
  by_cases hlt:k<P.length
  ·have hlt':(k:Int)<(P.length:Int):=by omega
   obtain⟨s,hs⟩:∃s,ol.ag[k]? =some s:=⟨_,List.getElem?_eq_getElem (by rw[HO.out.len];exact hlt)⟩
   obtain⟨hk1,hk2⟩:=HO.out.at_ k s hs;obtain⟨z0,z1,z2⟩:=HN.out.1.told hlt hs;replace z0:=KW.bj z0;replace z1:=KW.bj z1;replace z2:=KW.bj z2;rw[hk2]at z0;obtain⟨y0,y1⟩:=HN.out.2.at_ hk1;replace y0:=KW.bj y0;replace y1:=KW.bj y1;have E:=hid (oA wr.drew k (by omega));have HK:=hid KW;clear KW hs hk1 hk2
   go_upto_region 7 with(fail)
   go_region_held3 (λw'=>w'.cell? ⟨g,k*3,none⟩=some (.string (strOfNums [65+(k:Int)]))/\w'.cell? ⟨g,k*3+1,none⟩=some (.int .i64 s.kind)/\w'.cell? ⟨g,k*3+2,none⟩=some (.int .i64 s.parent)/\w'.cell? ⟨pg,k*2,none⟩=some (.int .i64 s.kind)/\w'.cell? ⟨pg,k*2+1,none⟩=some (.int .i64 s.parent)) (first|exact⟨z0,z1,z2,y0,y1⟩|exact HS.out) ((go_at_call 50;refine hm E ?_;rintro y w5 ⟨rfl,K5⟩;have H:=hid K5;have HS:=hid (ae (K5.bj z0) (ae (K5.bj z1) (ae (K5.bj z2) (ae (K5.bj y0) (K5.bj y1)))));clear E K5))
   have K6:=HK.out.drew.trans H.out;clear H HS z0 z1 z2 y0 y1
   go_wp2_with fail
   go_roundw
   case rel=>exact⟨k+1,by go_num,by omega,K6⟩
   case measure=>simp[intOf];omega
  have hlt':¬(k:Int)<(P.length:Int):=by omega
  go_wp2;go_ret;exact⟨rfl,K1.trans KW⟩
end
namespace Ch
def Mu(al:List Nat)(n:Nat):List Bool:=(List.range n).map λc=>decide (c∈al)
theorem Qw(al:List Nat)(n:Nat):(Mu al n).length=n:=by simp[Mu]
theorem Z5(n:Nat):Mu [] n=List.replicate n false:=by
 apply List.ext_getElem
 ·simp[Mu]
 intro i h1 h2;simp[Mu]
theorem WJ{al:List Nat}{n i:Nat}:(Mu al n).set i true=Mu (al++[i]) n:=by
 apply List.ext_getElem
 ·simp[Mu]
 intro j h1 h2;rw[List.getElem_set]
 by_cases e:i=j
 ·subst e;simp[Mu]
 rw[if_neg e];simp only[Mu,List.getElem_map,List.getElem_range,List.mem_append,List.mem_singleton]
 congr 1
 simp only[eq_iff_iff]
 constructor
 ·exact λh=>.inl h
 rintro(h|h)
 ·exact h
 exact absurd h.symm e
structure Names(A:ByteArray)(al:List Nat)(n:Nat):Prop where
 size:A.size=al.length
 at_:∀(k i:Nat) (h:k<A.size),al[k]? =some i->(((A[k]'h).toNat:Nat):Int)=65+(i:Int)
 lt:∀i∈al,i<n
 up:al.Pairwise (· < ·)
 le:n<=16
theorem WK{al:List Nat}{n:Nat}(h1:∀i∈al,i<n)(h2:al.Pairwise (· < ·))(h3:n<=16):Names (strOfNums (al.map λi:Nat=>65+(i:Int))) al n:=by
 refine⟨by rw[strOfNums_size];simp,λk i h hk=>?_,h1,h2,h3⟩;obtain⟨hlt,e⟩:=List.getElem?_eq_some_iff.1 hk;rw[Nw _ _ h (by simpa using hlt)];have:=h1 i (List.mem_of_getElem? hk);simp only[List.getElem_map,e];rw[UInt8.toNat_ofNat'];omega
theorem Names.above{A:ByteArray}{al:List Nat}{n:Nat}(h:Names A al n){k i:Nat}(hk:al[k]? =some i){j c:Nat}(hj:al[j]? =some c)(hkj:k<j):i<c:=by
 obtain⟨h1,e1⟩:=List.getElem?_eq_some_iff.1 hk;obtain⟨h2,e2⟩:=List.getElem?_eq_some_iff.1 hj;have:=List.pairwise_iff_getElem.1 h.up k j h1 h2 hkj;rw[e1,e2]at this;exact this
end Ch
section
variable (w:World)
theorem NM{A:ByteArray}{al:List Nat}{n pg pcap:Nat}(hA:Ch.Names A al n)(hal:al.length<=16):
 Calls prog 51 #[.string A,.slice (some ⟨pg,0,none⟩) n pcap] w λx w'=>x= .returned (.tuple #[.slice (some ⟨w.heap.size,0,none⟩) n n,.bool true])/\iH w' w.heap.size (Mu al n)/\Kp (λ_=>False) w w':=by
 obtain⟨i0,hi,hz0,hz1,hz2⟩:=info_parts wW;have hn16:=hA.le;have hAs:=hA.size;have HA:=hid hA;clear hA
 go_enter func51,ntmps51
 go_wp2_with (at_make;refine wpList_make_full w rfl (.tmp 11) (.tmp 11) 68 rfl w.heap.size 4 i0 (.bool false) 1 underlying68 hi hz0 hz1 .i64 .i64 n n n rfl rfl rfl rfl ?c1 ?c2 (Nat.le_refl _) ?_)
 case c1=>rw[hz2];omega
 case c2=>unfold maxLen;omega
 intro w4 o4 g4;have K4:Kp (λ_=>False) w w4:=(Kp.refl _ _).grown g4 (λi hi _=>by simp at hi);have Dx:=iH.made o4;rw[<-Z5]at Dx;clear o4 g4;generalize hg:w.heap.size=g at*
 go_wp2_with fail
 go_loopw [7,8] (λlv kv wr=>∃(k:Nat) (last:Int),lv= .int .i64 last/\kv= .int .i64 k/\k<=A.size/\ -1<=last/\last<16/\Hid (∀j i,k<=j->al[j]? =some i->last<(i:Int))/\iH wr g (Mu (al.take k) n)/\Kp (λi=>i=g) w4 wr) (λ_ kv _=>A.size-(intOf kv).toNat)
 case atStart=>exact⟨0,-1,rfl,rfl,Nat.zero_le _,by omega,by omega,hid (λj i _ _=>by omega),by simpa using Dx,Kp.refl _ _⟩
 case round=>
  obtain⟨k,last,rfl,rfl,hk,hl1,hl2,HL,hon,KW⟩:=hrel
  have IQ:k<=16:=by omega
  by_cases hlt:k<A.size
  ·have hlt':(k:Int)<(A.size:Int):=by omega
   obtain⟨i,hi2⟩:∃i,al[k]? =some i:=⟨_,List.getElem?_eq_getElem (by omega)⟩
   have hb:=HA.out.at_ k i hlt hi2;have hin:=HA.out.lt i (List.mem_of_getElem? hi2);have hla:=HL.out k i (Nat.le_refl _) hi2
   have h65:65+(i:Int)-65=(i:Int):=by omega
   have hle:¬(i:Int)<=last:=by omega
   have hge:¬(n:Int)<=(i:Int):=by omega
   have hin':(i:Int)<(n:Int):=by omega
   have hf:=hon.free i;have hc:=hon.cell (k:=i) (by rw[Qw];exact hin);have hset:=hon.set i true;rw[WJ]at hset
   have htk:al.take k++[i]=al.take (k+1):=by
    obtain⟨h1,e⟩:=List.getElem?_eq_some_iff.1 hi2;rw[<-e,List.take_append_getElem h1]
   rw[htk]at hset;have K6:Kp (λi=>i=g) w4 (wr.setCell ⟨g,i,none⟩ (.bool true)):=KW.setCell (p:=⟨g,i,none⟩) (λ_=>rfl) _;have HU:=hid (λj c (h1:k+1<=j) (h2:al[j]? =some c)=>(show(i:Int)<(c:Int)from by have:=HA.out.above hi2 h2 (by omega);omega));have HN:=hid (ae hset K6);clear hi2 hset K6 hon KW HL htk
   go_wp2_with fail
   go_roundw
   case rel=>exact⟨k+1,i,rfl,by go_num,by omega,by omega,by omega,hid HU.out,HN.out.1,HN.out.2⟩
   case measure=>simp[intOf];omega
  have hlt':¬(k:Int)<(A.size:Int):=by omega
  have hfull:al.take k=al:=List.take_of_length_le (by omega);rw[hfull]at hon;have KF:Kp (λ_=>False) w wr:=K4.trans' KW (λi hi x=>by omega);clear KW K4 Dx HL;go_wp2;go_ret2;exact⟨rfl,hon,KF⟩
end
namespace Ch
def Dy(P:List (Int×Int))(i c:Nat):Bool:=match P[c]? with|some x=>x.2==(i:Int)&&x.1 !=5|none=>false
def vd(P:List (Int×Int))(i j:Nat):Nat:=(List.range j).countP (Dy P i)
def tH(P:List (Int×Int))(on:List Bool)(i j:Nat):Nat:=(List.range j).countP λc=>Dy P i c&&eJ on c
theorem BF(P:List (Int×Int))(i j:Nat):vd P i (j+1)=vd P i j+if Dy P i j then 1 else 0:=by
 unfold vd;rw[List.range_succ,List.countP_append];simp[List.countP_cons]
theorem BG(P:List (Int×Int))(on:List Bool)(i j:Nat):tH P on i (j+1)=tH P on i j+if Dy P i j&&eJ on j then 1 else 0:=by
 unfold tH;rw[List.range_succ,List.countP_append];simp[List.countP_cons]
theorem WL(P:List (Int×Int))(i j:Nat):vd P i j<=j:=by unfold vd;exact Nat.le_trans List.countP_le_length (by simp)
theorem WM(P:List (Int×Int))(on:List Bool)(i j:Nat):tH P on i j<=j:=by unfold tH;exact Nat.le_trans List.countP_le_length (by simp)
structure Z6(P:List (Int×Int))(on:List Bool):Prop where
 le:P.length<=16
 len:on.length=P.length
 up:∀(c:Nat) (q p:Int),P[c]? =some (q,p)->p<(c:Int)
 root:∀(i:Nat) (q p:Int),P[i]? =some (q,p)->p<0->eJ on i=true
 cX:∀(i:Nat) (q p:Int),P[i]? =some (q,p)->eJ on i=true->q≠5
 par:∀(i:Nat) (q p:Int),P[i]? =some (q,p)->eJ on i=true->0<=p->eJ on p.toNat=true
 one:∀(i:Nat) (p:Int),P[i]? =some (2,p)->eJ on i=true->tH P on i P.length=1
 all:∀(i:Nat) (p:Int),P[i]? =some (3,p)->eJ on i=true->tH P on i P.length=vd P i P.length
theorem Z6.none{P:List (Int×Int)}{on:List Bool}(h:Z6 P on)(i:Nat):∀j,j<=i+1->vd P i j=0/\tH P on i j=0:=by
 have hk:∀c,c<=i->Dy P i c=false:=by
  intro c hc;unfold Dy
  cases q:P[c]? with
  |none=>rfl
  |some x=>?_
  have:=h.up c x.1 x.2 q;simp only
  have e:(x.2==(i:Int))=false:=by simp;omega
  rw[e];rfl
 intro j
 induction j with
 |zero=>intro _;exact⟨rfl,rfl⟩
 |succ j ih=>?_
 intro hj;have:=ih (by omega);rw[BF,BG,hk j (by omega)];simp[this.1,this.2]
end Ch
theorem WN:(prog.info? 113).map (·.size)=some 2:=by kernel_rfl
theorem Z7:∃d,prog.underlying 113=some d/\ak d=true:=⟨_,underlying113,rfl⟩
section
variable (w:World)
theorem S4{P:List (Int×Int)}{on:List Bool}{g pg pcap:Nat}(hr:Z6 P on)(hon:iH w g on)(hp:Db w pg P):
 Calls prog 52 #[.slice (some ⟨g,0,none⟩) P.length P.length,.slice (some ⟨pg,0,none⟩) P.length pcap] w λx w'=>x= .returned (.bool true)/\Kp (λ_=>False) w w':=by
 obtain⟨dp,hdp,ajx⟩:=Z7;have h16:=hr.le;have HR:=hid (ae hr (ae hon hp));clear hr hon hp
 go_enter func52,ntmps52
 go_wp2_with fail
 go_loopw [5] (λi wr=>∃k:Nat,i= .int .i64 k/\k<=P.length/\Kp (λ_=>False) w wr) (λi _=>P.length-(intOf i).toNat)
 case atStart=>exact⟨0,rfl,Nat.zero_le _,Kp.refl _ _⟩
 case round=>
  obtain⟨k,rfl,hk,KW⟩:=hrel
  by_cases hlt:k<P.length
  ·have hlt':(k:Int)<(P.length:Int):=by omega
   obtain⟨q,p,hkp⟩:∃q p,P[k]? =some (q,p):=⟨_,_,List.getElem?_eq_getElem hlt⟩
   have hpr:=HR.out.2.2.ai KW;have hor:iH wr g on:=KW.at_ HR.out.2.1 (λx=>x);have hrow:=heap_alloc_new wr (.cells #[.int .i64 q,.int .i64 p] 113);have K5:Kp (λ_=>False) wr (wr.alloc (.cells #[.int .i64 q,.int .i64 p] 113)):=(Kp.refl _ _).alloc _
   have hcs:∀j v,[Value.int .i64 q,.int .i64 p][j]? =some v->wr.cell? ⟨pg,k*2+j,none⟩=some v:=by
    intro j v hj
    match j,hj with
    |0,hj=>simp at hj;subst hj;exact(hpr.at_ hkp).1
    |1,hj=>simp at hj;subst hj;exact(hpr.at_ hkp).2
    |j+2,hj=>simp at hj
   go_upto_region 5 with(refine aY rfl 113 (.tmp 18) rfl pg (k*2) rfl [.int .i64 q,.int .i64 p] dp hcs hdp ajx WN ?_)
   have hpb:wr.heap.size≠g:=by have:=lt_of_block hor;omega
   have afQ:=hpr.ai K5;have ac5:iH (wr.alloc (.cells #[.int .i64 q,.int .i64 p] 113)) g on:=K5.at_ hor (λx=>x);have K6:=KW.trans K5;generalize wr.alloc (.cells #[.int .i64 q,.int .i64 p] 113)=w5 at*;generalize wr.heap.size=pb at*
   have b0:w5.cell? ⟨pb,0,none⟩=some (.int .i64 q):=by rw[World.cell?,hrow];rfl
   have b1:w5.cell? ⟨pb,1,none⟩=some (.int .i64 p):=by rw[World.cell?,hrow];rfl
   have ok:=ac5.cell (k:=k) (by rw[HR.out.1.len];exact hlt);have HX:=hid (ae afQ (ae ac5 K6));have Vf:=hid hkp;clear hrow K5 hcs hpr hor afQ ac5 K6 KW hkp
   go_cut [53]from 20 to 52 (λc wx=>c= .bool false/\wx=w5)
   case first=>
    by_cases hp0:p<0
    ·have sC:=HR.out.1.root k q p Vf.out hp0
     have hq5:=HR.out.1.cX k q p Vf.out sC;rw[sC]at ok
     have hp1:¬ 0<=p:=by omega
     have hqb:(q==5)=false:=by simpa using hq5
     go_wp2_with fail
     go_meet
     exact⟨rfl,rfl⟩
    have hp1:0<=p:=by omega
    cases hok:eJ on k with
    |false=>
     rw[hok]at ok
     go_wp2_with fail
     go_meet
     exact⟨rfl,rfl⟩
    |true=>?_
    rw[hok]at ok;have hq5:=HR.out.1.cX k q p Vf.out hok
    obtain⟨pn,rfl⟩:∃pn:Nat,p=(pn:Int):=⟨p.toNat,by omega⟩
    have hup:=HR.out.1.up k q _ Vf.out
    have hpn:(pn:Int)<(P.length:Int):=by omega
    have op:=HX.out.2.1.cell (k:=pn) (by rw[HR.out.1.len];omega);have hpt:=HR.out.1.par k q _ Vf.out hok hp1;simp only[Int.toNat_natCast]at hpt;rw[hpt]at op
    have hqb:(q==5)=false:=by simpa using hq5
    go_wp2_with fail
    go_meet
    exact⟨rfl,rfl⟩
   case rest=>
    obtain⟨rfl,rfl⟩:=hcut;have h0:=HR.out.1.none k (k+1) (Nat.le_refl _);have HZ:=hid h0;clear h0
    go_wp2_with fail
    go_loopw [7,8,9] (λkv lv jv wq=>∃j:Nat,jv= .int .i64 j/\k+1<=j/\j<=P.length/\kv= .int .i64 (vd P k j)/\lv= .int .i64 (tH P on k j)/\wq=wc) (λ_ _ jv _=>P.length-(intOf jv).toNat)
    case atStart=>exact⟨k+1,by go_num,Nat.le_refl _,by omega,by rw[HZ.out.1];rfl,by rw[HZ.out.2];rfl,rfl⟩
    case round=>
     obtain⟨j,rfl,hj1,hj2,rfl,rfl,rfl⟩:=hrel;have lk:=WL P k j;have ll:=WM P on k j
     by_cases hjl:j<P.length
     ·have AK:(j:Int)<(P.length:Int):=by omega
      obtain⟨qj,pj,hj⟩:∃qj pj,P[j]? =some (qj,pj):=⟨_,_,List.getElem?_eq_getElem hjl⟩
      obtain⟨y0,y1⟩:=HX.out.1.at_ hj;have oj:=HX.out.2.1.cell (k:=j) (by rw[HR.out.1.len];exact hjl);have hks:=BF P k j;have hls:=BG P on k j
      have hkd:Dy P k j=(pj==(k:Int)&&qj !=5):=by unfold Dy;rw[hj]
      by_cases hpj:pj=(k:Int)
      ·subst hpj
       by_cases hqj:qj=5
       ·subst hqj
        rw[hkd]at hks hls;simp at hks hls;have HS:=hid (ae hks hls);clear hks hls hkd hj
        go_wp2_with fail
        go_roundw
        case rel=>exact⟨j+1,by go_num,by omega,by omega,by rw[HS.out.1],by rw[HS.out.2],trivial⟩
        case measure=>simp[intOf];omega
       rw[hkd]at hks hls
       cases hoj:eJ on j with
       |false=>
        rw[hoj]at oj hls;simp[hqj]at hks hls;have HS:=hid (ae hks hls);clear hks hls hkd hj hoj
        go_wp2_with fail
        go_roundw
        case rel=>exact⟨j+1,by go_num,by omega,by omega,by rw[HS.out.1];go_num,by rw[HS.out.2],trivial⟩
        case measure=>simp[intOf];omega
       |true=>?_
       rw[hoj]at oj hls;simp[hqj]at hks hls;have HS:=hid (ae hks hls);clear hks hls hkd hj hoj
       go_wp2_with fail
       go_roundw
       case rel=>exact⟨j+1,by go_num,by omega,by omega,by rw[HS.out.1];go_num,by rw[HS.out.2];go_num,trivial⟩
       case measure=>simp[intOf];omega
      rw[hkd]at hks hls
      have e:(pj==(k:Int))=false:=by simpa using hpj
      rw[e]at hks hls;simp at hks hls;have HS:=hid (ae hks hls);clear hks hls hkd hj e
      go_wp2_with fail
      go_roundw
      case rel=>exact⟨j+1,by go_num,by omega,by omega,by rw[HS.out.1],by rw[HS.out.2],trivial⟩
      case measure=>simp[intOf];omega
     have AK:¬(j:Int)<(P.length:Int):=by omega
     obtain rfl:j=P.length:=by omega
     cases hok:eJ on k with
     |false=>
      rw[hok]at ok
      go_wp2_with fail
      go_roundw
      case rel=>exact⟨k+1,by go_num,by omega,HX.out.2.2⟩
      case measure=>simp[intOf];omega
     |true=>?_
     rw[hok]at ok
     by_cases q2:q=2
     ·subst q2
      have:=HR.out.1.one k p Vf.out hok;rw[this]
      go_wp2_with fail
      go_roundw
      case rel=>exact⟨k+1,by go_num,by omega,HX.out.2.2⟩
      case measure=>simp[intOf];omega
     by_cases q3:q=3
     ·subst q3
      have:=HR.out.1.all k p Vf.out hok;rw[this];generalize vd P k P.length=nk at*
      go_wp2_with fail
      go_roundw
      case rel=>exact⟨k+1,by go_num,by omega,HX.out.2.2⟩
      case measure=>simp[intOf];omega
     go_wp2_with fail
     go_roundw
     case rel=>exact⟨k+1,by go_num,by omega,HX.out.2.2⟩
     case measure=>simp[intOf];omega
  have hlt':¬(k:Int)<(P.length:Int):=by omega
  go_wp2;go_ret;exact⟨rfl,KW⟩
end
namespace Ch
def oB(P:List (Int×Int))(c:Nat):Bool:=match P[c]? with|some x=>x.1==5|none=>false
def j9(P:List (Int×Int))(j:Nat):Nat:=(List.range j).countP (oB P)
theorem BH(P:List (Int×Int))(j:Nat):j9 P (j+1)=j9 P j+if oB P j then 1 else 0:=by
 unfold j9;rw[List.range_succ,List.countP_append];simp[List.countP_cons]
theorem WO(P:List (Int×Int))(j:Nat):j9 P j<=j:=by unfold j9;exact Nat.le_trans List.countP_le_length (by simp)
theorem NN(P:List (Int×Int)){i j:Nat}(h:i<=j):j9 P i<=j9 P j:=by
 induction h with
 |refl=>exact Nat.le_refl _
 |step _ ih=>rw[Nat.succ_eq_add_one,BH];omega
structure afR(P:List (Int×Int))(A:ByteArray):Prop where
 le:P.length<=16
 size:A.size=j9 P P.length
 at_:∀(i:Nat) (p:Int),P[i]? =some (5,p)->∀h:j9 P i<A.size,(((A[j9 P i]'h).toNat:Nat):Int)=45\/∃c:Nat,(((A[j9 P i]'h).toNat:Nat):Int)=65+(c:Int)/\∃q2:Int,P[c]? =some (q2,p)/\q2≠5
end Ch
section
variable (w:World)
theorem Dz{P:List (Int×Int)}{A:ByteArray}{pg pcap:Nat}(ha:afR P A)(hp:Db w pg P):
 Calls prog 53 #[.string A,.slice (some ⟨pg,0,none⟩) P.length pcap] w λx w'=>x= .returned (.bool true)/\Kp (λ_=>False) w w':=by
 have h16:=ha.le;have hsz:=ha.size;have HA:=hid (ae ha hp);clear ha hp
 go_enter func53,ntmps53
 go_wp2_with fail
 go_loopw [5,6] (λkv iv wr=>∃i:Nat,iv= .int .i64 i/\i<=P.length/\kv= .int .i64 (j9 P i)/\Kp (λ_=>False) w wr) (λ_ iv _=>P.length-(intOf iv).toNat)
 case atStart=>exact⟨0,rfl,Nat.zero_le _,rfl,Kp.refl _ _⟩
 case round=>
  obtain⟨i,rfl,hi,rfl,KW⟩:=hrel;have hle:=WO P i
  by_cases hlt:i<P.length
  ·have hlt':(i:Int)<(P.length:Int):=by omega
   obtain⟨q,p,hip⟩:∃q p,P[i]? =some (q,p):=⟨_,_,List.getElem?_eq_getElem hlt⟩
   have hpr:=HA.out.2.ai KW;obtain⟨y0,y1⟩:=hpr.at_ hip;have hs:=BH P i
   have hh:oB P i=(q==5):=by unfold oB;rw[hip]
   rw[hh]at hs
   by_cases q5:q=5
   ·subst q5
    simp at hs;have hmono:=NN P (show i+1<=P.length by omega)
    have hkl:j9 P i<A.size:=by omega
    have hkl':((j9 P i:Nat):Int)<(A.size:Int):=by omega
    have WG:¬(A.size:Int)<=((j9 P i:Nat):Int):=by omega
    have hat:=HA.out.1.at_ i p hip hkl;have HS:=hid hs;have HK:=hid (ae KW hpr);clear hs hh hip KW hmono hsz;generalize j9 P i=k at*
    rcases hat with hb|⟨c,hb,q2,hc,hq2⟩
    ·clear hpr
     go_upto_region 11 with(fail)
     go_quiet (fail)
     rename_i nq;have KD:=hid (HK.out.1.drewN nq)
     go_wp2_with fail
     go_roundw
     case rel=>exact⟨i+1,by go_num,by omega,by rw[HS.out];go_num,KD.out⟩
     case measure=>simp[intOf];omega
    obtain⟨x0,x1⟩:=hpr.at_ hc;have hcl:=(List.getElem?_eq_some_iff.1 hc).1
    have hc0:¬(c:Int)<0:=by omega
    have hcl':(c:Int)<(P.length:Int):=by omega
    have aoG:¬(P.length:Int)<=(c:Int):=by omega
    have h65:65+(c:Int)-65=(c:Int):=by omega
    have h45:¬(65:Int)+(c:Int)=45:=by omega
    have aoH:(q2==5)=false:=by simpa using hq2
    clear hpr hc
    go_upto_region 11 with(fail)
    go_quiet (fail)
    rename_i nq;have KD:=hid (HK.out.1.drewN nq)
    go_wp2_with fail
    go_roundw
    case rel=>exact⟨i+1,by go_num,by omega,by rw[HS.out];go_num,KD.out⟩
    case measure=>simp[intOf];omega
   have q5b:(q==5)=false:=by simpa using q5
   rw[q5b]at hs;simp at hs;have HS:=hid hs;clear hs hh hip hpr
   go_wp2_with fail
   go_roundw
   case rel=>exact⟨i+1,by go_num,by omega,by rw[HS.out],KW⟩
   case measure=>simp[intOf];omega
  have hlt':¬(i:Int)<(P.length:Int):=by omega
  obtain rfl:i=P.length:=by omega
  rw[<-hsz];go_wp2;go_ret;exact⟨rfl,KW⟩
end
namespace Ch
def DA(s:Sd)(n:Nat):List Nat:=(List.range n).filter (bit s.act)
section
variable {P:List (Int×Int)} {ol:Ol}
theorem Qx(hO:zF P ol){k:Nat}(hk:k<P.length):∃st,ol.ag[k]? =some st/\P[k]? =some (st.kind,st.parent)/\st.name=65+(k:Int):=by
 have h:k<ol.ag.length:=by rw[hO.len];exact hk
 exact⟨_,List.getElem?_eq_getElem h,hO.at_ k _ (List.getElem?_eq_getElem h)⟩
theorem abB(hO:zF P ol){k:Nat}(hk:k<P.length):dN ol.ag k=65+(k:Int):=by
 obtain⟨st,e,_,h⟩:=Qx hO hk;unfold dN;rw[e];exact h
theorem JO(hO:zF P ol){k:Nat}{q p:Int}(hk:P[k]? =some (q,p)):aA ol.ag k=q/\aw ol.ag k=p/\k<ol.ag.length:=by
 have hlt:=(List.getElem?_eq_some_iff.1 hk).1;obtain⟨st,e,h,_⟩:=Qx hO hlt;rw[h]at hk;simp at hk;unfold aA aw;rw[dD,e];exact⟨hk.1,hk.2,by rw[hO.len];exact hlt⟩
theorem BI(hO:zF P ol)(i c:Nat):Dy P i c=aB ol.ag c (i:Int):=by
 unfold Dy aB;rw[dD]
 by_cases hc:c<P.length
 ·obtain⟨st,e,h,_⟩:=Qx hO hc
  rw[e,h]
 rw[List.getElem?_eq_none (by omega),List.getElem?_eq_none (by rw[hO.len];omega)]
theorem Z8(hO:zF P ol)(c:Nat):oB P c=cX ol.ag c:=by
 unfold oB cX
 by_cases hc:c<P.length
 ·obtain⟨st,e,h,_⟩:=Qx hO hc
  rw[e,h]
 rw[List.getElem?_eq_none (by omega),List.getElem?_eq_none (by rw[hO.len];omega)]
theorem Z9(hO:zF P ol)(h16:P.length<=16)(s:Sd):dV ol.ag s=strOfNums ((DA s P.length).map λi:Nat=>65+(i:Int)):=by
 unfold dV gN;rw[show min ol.ag.length 16=P.length by rw[hO.len];omega]
 congr 1
 have e:(λj:Nat=>has s.act (j:Int))=bit s.act:=by funext j;exact cT _ _
 rw[e];exact List.map_congr_left (λi hi=>abB hO (by have:=(List.mem_filter.1 hi).1;simpa using this))
end
theorem NO(s:Sd){n:Nat}(h:n<=16):Names (strOfNums ((DA s n).map λi:Nat=>65+(i:Int))) (DA s n) n:=
 WK (λi hi=>by have:=(List.mem_filter.1 hi).1;simpa using this) (List.Pairwise.filter _ List.pairwise_lt_range) h
theorem WQ(s:Sd)(n:Nat):(DA s n).length<=n:=by
 unfold DA;exact Nat.le_trans (List.length_filter_le _ _) (by simp)
theorem S5{s:Sd}{n:Nat}(hlt:∀i,bit s.act i=true->i<n)(k:Nat):eJ (Mu (DA s n) n) k=bit s.act k:=by
 unfold eJ Mu
 by_cases hk:k<n
 ·simp only[List.getD_eq_getElem?_getD,List.getElem?_map,List.getElem?_range hk,Option.map_some,Option.getD_some]
  have:(k∈DA s n)↔bit s.act k=true:=by unfold DA;simp[hk]
  cases q:bit s.act k with
  |true=>simp[this,q]
  |false=>simp[this,q]
 have h1:bit s.act k=false:=by
  cases q:bit s.act k with
  |false=>rfl
  |true=>exact absurd (hlt k q) hk
 rw[h1];simp[List.getD_eq_getElem?_getD,List.getElem?_eq_none (l:=List.range n) (i:=k) (by simp;omega)]
theorem S6{f:Nat->Bool}{n i:Nat}(hi:i<n)(hf:f i=true):((List.range n).filter f)[(List.range i).countP f]? =some i:=by
 obtain⟨m,rfl⟩:∃m,n=i+1+m:=⟨n-(i+1),by omega⟩
 have e:List.range (i+1+m)=List.range i++(i::(List.range m).map (i+1+ ·)):=by
  rw[List.range_add,List.range_succ,List.append_assoc];rfl
 rw[e,List.filter_append,List.filter_cons_of_pos hf,List.countP_eq_length_filter];rw[List.getElem?_append_right (Nat.le_refl _)];simp
section
variable {P:List (Int×Int)} {ol:Ol}
theorem NP(hP:Du P)(hO:zF P ol){s:Sd}(hC:Jp ol.ag (bit s.act)):Z6 P (Mu (DA s P.length) P.length):=by
 have hb:=λk=>S5 (s:=s) (n:=P.length) (λi hi=>by have:=hC.lt i hi;rw[hO.len]at this;exact this) k
 have hup:∀(c:Nat) (q p:Int),P[c]? =some (q,p)->p<(c:Int):=by
  intro c q p hc
  rcases hP.par c q p hc with rfl|⟨i,e,h,_⟩
  ·obtain⟨k,h1,_⟩:=hP.root
   rw[h1]at hc;simp at hc;omega
  omega
 refine⟨hP.len,Qw _ _,hup,?_,?_,?_,?_,?_⟩
 ·intro i q p hi hp
  rw[hb]
  rcases hP.par i q p hi with rfl|⟨c,e,_⟩
  ·exact hC.root
  omega
 ·intro i q p hi ho
  rw[hb]at ho;have:=hC.cX i ho;rw[(JO hO hi).1]at this;exact this
 ·intro i q p hi ho hp
  rw[hb]at ho⊢;exact hC.Vc i p.toNat ho (by rw[(JO hO hi).2.1];omega)
 ·intro i p hi ho
  rw[hb]at ho;have hk:=(JO hO hi).1;unfold tH;refine yV _ List.nodup_range ?_ ?_
  ·obtain⟨c,h1,h2⟩:=hC.Qp i ho hk
   refine⟨c,by have:=hC.lt c h2;rw[hO.len]at this;simpa using this,?_⟩;rw[BI hO,hb,h1,h2];rfl
  intro a _ b _ ha hb';simp only[Bool.and_eq_true]at ha hb';rw[BI hO,hb]at ha hb';exact hC.one i a b hk ha.1 hb'.1 ha.2 hb'.2
 intro i p hi ho;rw[hb]at ho;have hk:=(JO hO hi).1;unfold tH vd;refine List.countP_congr (λc _=>?_);rw[hb]
 constructor
 ·intro h;simp only[Bool.and_eq_true]at h;exact h.1
 intro h;simp only[Bool.and_eq_true];exact⟨h,hC.ZM i c ho hk (by rw[<-BI hO];exact h)⟩
theorem S7(hP:Du P)(hO:zF P ol){s:Sd}(hI:mq ol.ag s):afR P (dh ol.ag s):=by
 have h16:=hP.len
 have hf:oB P=cX ol.ag:=by funext c;exact Z8 hO c
 have e:dh ol.ag s=strOfNums (((List.range P.length).filter (oB P)).map (aR s)):=by
  unfold dh ig;rw[show min ol.ag.length 16=P.length by rw[hO.len];omega,hf]
 have hN:∀j,j9 P j=(List.range j).countP (oB P):=λ_=>rfl
 rw[e];refine⟨h16,by rw[strOfNums_size,List.length_map,hN,List.countP_eq_length_filter],λi p hi h=>?_⟩;have hlt:=(List.getElem?_eq_some_iff.1 hi).1
 have hh:oB P i=true:=by unfold oB;rw[hi];rfl
 have hat:=S6 hlt hh;rw[<-hN]at hat
 have hl:j9 P i<(((List.range P.length).filter (oB P)).map (aR s)).length:=by rw[strOfNums_size]at h;exact h
 rw[Nw _ _ h hl]
 have hv:(((List.range P.length).filter (oB P)).map (aR s))[j9 P i]'hl=aR s i:=by
  have:=List.getElem?_map (f:=aR s) (l:=(List.range P.length).filter (oB P)) (i:=j9 P i);rw[hat,List.getElem?_eq_getElem hl]at this;simpa using this
 rw[hv];have hp:=hI i (by rw[hO.len];exact hlt) (by rw[<-hf];exact hh);unfold gy at hp
 split at hp
 ·rename_i c
  have c':aR s i=45:=by simpa using c
  left
  rw[c'];rfl
 right
 cases q:lM ol.ag (place ol.ag (aR s i))with
 |none=>unfold aB at hp;rw[q]at hp;cases hp
 |some y=>?_
 obtain⟨g,e1,e2,e3⟩:=iz q;obtain⟨g',e4,e5,e6⟩:=Bo (ss:=ol.ag) (c:=aR s i) (by omega)
 have:g'=g:=by omega
 subst this;rw[hO.len]at e5;rw[abB hO e5]at e6;have hch:=hp;unfold aB at hch;rw[q]at hch;simp only[Bool.and_eq_true,beq_iff_eq,bne_iff_ne,ne_eq]at hch;obtain⟨h1,_⟩:=hO.at_ g' y e2;have hpi:=(JO hO hi).2.1;refine⟨g',?_,y.kind,?_,hch.2⟩
 ·rw[<-e6,UInt8.toNat_ofNat'];omega
 rw[h1,hch.1,hpi]
end
end Ch
section
variable {w:World} {b:Nat} {a:As}
theorem jQ.c2(h:jQ w b a):w.cell? ⟨b,2,none⟩=some (.string a.tm):=by rw[World.cell?,h];rfl
theorem jQ.c3(h:jQ w b a):w.cell? ⟨b,3,none⟩=some (.int .i64 a.x):=by rw[World.cell?,h];rfl
theorem jQ.c4(h:jQ w b a):w.cell? ⟨b,4,none⟩=some (.int .i64 a.y):=by rw[World.cell?,h];rfl
theorem jQ.c5(h:jQ w b a):w.cell? ⟨b,5,none⟩=some (.int .i64 a.z):=by rw[World.cell?,h];rfl
end
section
variable (w:World)
theorem JP{T:ByteArray}{ol:Ol}{P:List (Int×Int)}{pg pcap:Nat}{s:Sd}(hR:qw T ol)(hP:Du P)(hO:zF P ol)(g:Ch.Good ol s)(hp:Db w pg P):
 Calls prog 29 #[.string T,.agg (aN (aH ol.ag s)),.slice (some ⟨pg,0,none⟩) P.length pcap] w λx w'=>x= .returned (.bool true)/\Kp (λ_=>False) w w':=by
 obtain⟨da,dE,bq⟩:=fN;have h16:=hP.len;have hea:=Z9 hO h16 s;have hnm:=NO s h16;rw[<-hea]at hnm;have hall:=WQ s P.length;have hru:=NP hP hO g.inv.conf;have Gc:=S7 hP hO g.inv.past;have sD:=(g.lg hR).1;have hsm:=g.sm;have hx:=g.ok.2.1.1;have hy:=g.ok.2.1.2.1;have hz:=g.ok.2.1.2.2;have aoJ:=g.tl.2
 have hte:(s.tm.size:Int).tmod 2=0:=by
  have:=Ch.TL.even _ (Nat.le_refl _) g.tl.1;rw[bz]at this;rw[Int.tmod_eq_emod_of_nonneg (by omega)];omega
 have hb1:jQ (w.alloc (.cells (aN (aH ol.ag s)) 26)) w.heap.size (aH ol.ag s):=heap_alloc_new w _;have K1:Kp (λ_=>False) w (w.alloc (.cells (aN (aH ol.ag s)) 26)):=(Kp.refl _ _).alloc _;have hp1:=hp.ai K1;have aI:=fA (aH ol.ag s)
 have E1:=λW=>hid (NM W (pg:=pg) (pcap:=pcap) hnm (by omega))
 have E2:=λW g' h1 h2=>hid (S4 W (g:=g') (pg:=pg) (pcap:=pcap) hru h1 h2)
 have E3:=λW h1=>hid (Dz W (pg:=pg) (pcap:=pcap) Gc h1)
 have E4:=λW=>Bq W T (aH ol.ag s) hsm
 rw[sD]at E4
 replace E4:=λW=>hid (E4 W)
 have e0:(aH ol.ag s).act=dV ol.ag s:=rfl;have e1:(aH ol.ag s).past=dh ol.ag s:=rfl;have e2:(aH ol.ag s).tm=s.tm:=rfl;have e3:(aH ol.ag s).x=s.x:=rfl;have e4:(aH ol.ag s).y=s.y:=rfl;have e5:(aH ol.ag s).z=s.z:=rfl;have c0:=hb1.c0;have c1:=hb1.c1;have c2:=hb1.c2;have c3:=hb1.c3;have c4:=hb1.c4;have c5:=hb1.c5;rw[e0]at c0;rw[e1]at c1;rw[e2]at c2;rw[e3]at c3;rw[e4]at c4;rw[e5]at c5;clear hea hnm hru Gc sD hsm hp g hR hP hO e0 e1 e2 e3 e4 e5;unfold jQ at hb1;generalize dV ol.ag s=OA at*;generalize dh ol.ag s=OP at*;generalize aN (aH ol.ag s)=AA at*;generalize s.tm=tm at*;generalize s.x=sx at*;generalize s.y=sy at*;generalize s.z=sz at*;generalize Mu (DA s P.length) P.length=on at*
 go_enter func29,ntmps29
 go_upto_region 1 with(fail)
 generalize w.alloc (.cells AA 26)=w1 at*;generalize w.heap.size=sb at*
 go_wp2_with fail
 refine Calls.mono (Hid.out (E1 w1)) ?_;rintro x w2 ⟨rfl,hon,K2⟩;generalize w1.heap.size=og at*;have hp2:=hp1.ai K2;have EE2:=E2 w2 og hon hp2;replace hb1:=K2.at_ hb1 (λx=>x);replace c1:=K2.bj c1;replace c2:=K2.bj c2;replace c3:=K2.bj c3;replace c4:=K2.bj c4;replace c5:=K2.bj c5;replace K2:=K1.trans K2;clear E1 E2 hp1 hon c0 K1
 go_wp2_with fail
 refine hm EE2 ?_;rintro x w3 ⟨rfl,K3⟩;have EE3:=E3 w3 (hp2.ai K3);replace hb1:=K3.at_ hb1 (λx=>x);replace c1:=K3.bj c1;replace c2:=K3.bj c2;replace c3:=K3.bj c3;replace c4:=K3.bj c4;replace c5:=K3.bj c5;replace K3:=K2.trans K3;clear EE2 E3 hp2 K2
 go_wp2_with fail
 refine hm EE3 ?_;rintro x w4 ⟨rfl,K4⟩;replace hb1:=K4.at_ hb1 (λx=>x);replace c2:=K4.bj c2;replace c3:=K4.bj c3;replace c4:=K4.bj c4;replace c5:=K4.bj c5;replace K4:=K3.trans K4;clear EE3 K3 c1
 go_wp2_with (refine wpList_load_row rfl 26 (.tmp 4) rfl sb rfl 26 AA (0,0) da hb1 dE (by cases da<;>first|rfl|exact absurd bq (by simp[ak])) aI ?_)
 refine Calls.mono (Hid.out (E4 _)) ?_;rintro x w5 ⟨rfl,K5⟩;replace c2:=K5.bj c2;replace c3:=K5.bj c3;replace c4:=K5.bj c4;replace c5:=K5.bj c5;replace K5:=K4.trans K5;clear E4 hb1 K4;obtain⟨hx1,hx2⟩:=hx;obtain⟨hy1,hy2⟩:=hy;obtain⟨hz1,hz2⟩:=hz
 have al7:(tm.size:Int)<=16:=by omega
 go_wp2;go_ret;exact⟨rfl,K5⟩
theorem S8{lv:Value}{n:Nat}(hI:qs w w.heap.size lv n)(hn:n<=maxLen)(ev:ByteArray)(hsz:ev.size<=140737488351232):
 Calls prog 12 #[lv,.string ev] w λx w'=>x= .returned (.bool true)/\Below w.heap.size w w':=by
 obtain⟨da,dE,bq⟩:=fN;have E0:=hid (nO w hI hn);clear hI hn
 go_enter func12,ntmps12
 go_wp2_with fail
 refine hm E0 ?_;rintro x w1 ⟨L,P,pv,rfl,ho1,B1,hP,hW,hL⟩;obtain⟨ol,hR,Z1⟩:=qB hP hW hL;obtain⟨pg,pcap,rfl,hp1⟩:=Db.of ho1 (by obtain⟨k,h1,_⟩:=hP.root;exact(List.getElem?_eq_some_iff.1 h1).1);have HR:=hid (ae hR (ae hP Z1));generalize strOfNums L=T at HR;clear E0 hP hW hL hR Z1 ho1;have E1:=hid (tE w1)
 go_wp2_with fail
 refine hm E1 ?_;rintro x w2 ⟨rfl,K2⟩;have B2:=B1.trans (aG K2 B1.size);have hp2:=hp1.ai K2;have E2:=hid (S3 w2 (pcap:=pcap) HR.out.1 HR.out.2.2 hp2);clear E1 K2 B1 hp1
 go_wp2_with fail
 refine hm E2 ?_;rintro x w3 ⟨rfl,K3⟩;have B3:=B2.trans (aG K3 B2.size);have hp3:=hp2.ai K3;clear E2 K3 B2 hp2;have E3:=jX w3 T
 rcases yY HR.out.1 with⟨s0,o0,hs,hg⟩|⟨o0,hs⟩
 rotate_left
 ·rw[hs]at E3
  simp only at E3;replace E3:=hid E3;have rO:=bZ dX;have rI:=fA dX;have rS:(aN dX).size=6:=rfl
  have ES:=λW=>hid (gH W dX)
  have HB:=hid (show prog.built 26 []=some (aN dX)by kernel_rfl);generalize aN dX=A0 at*
  go_wp2_with fail
  refine hm E3 ?_;rintro x w4 ⟨rfl,K4⟩;have hnew:=heap_alloc_new w4 (.cells aD 26);have Wn:=setRow_heap (w4.alloc (.cells aD 26)) w4.heap.size aD A0 26 (0,0) hnew;have K5:Kp (λ_=>False) w4 ((w4.alloc (.cells aD 26)).setRow w4.heap.size A0):=((Kp.refl _ _).alloc _).setRow (λx=>by omega) _;have B5:=B3.trans (aG (K4.trans K5) B3.size);clear E3 K4 K5
  go_upto_region 7 with(refine wpList_store_row rfl 26 (.tmp 9) (.tmp 35) rfl w4.heap.size A0 rfl rfl 26 aD hnew rI (by rw[rS];rfl) rO ?_)
  generalize (w4.alloc (.cells aD 26)).setRow w4.heap.size A0=w5 at*;generalize w4.heap.size=sb at*;clear hnew
  go_wp2_with (first|(refine bX rfl 26 #[] rfl A0 [] ?_ HB.out ?_;rfl)|refine wpList_load_row rfl 26 (.tmp 9) rfl sb rfl 26 A0 (0,0) da Wn dE (by cases da<;>first|rfl|exact absurd bq (by simp[ak])) rI ?_)
  refine Calls.mono (Hid.out (ES _)) ?_;rintro x w6 ⟨rfl,K6⟩;have B6:=B5.trans (aG K6 B5.size);clear ES K6;go_wp2;go_ret;exact⟨rfl,B6⟩
 rw[hs]at E3;simp only at E3;replace E3:=hid E3;have HG:=hid hg
 have EF:=λW h=>hid (JP W (pcap:=pcap) HR.out.1 HR.out.2.1 HR.out.2.2 hg (pg:=pg) h)
 clear hs hg;have rO:=bZ (aH ol.ag s0);have rI:=fA (aH ol.ag s0);have rS:(aN (aH ol.ag s0)).size=6:=rfl;generalize hA0:aN (aH ol.ag s0)=A0 at*;have Z2:=hid hA0;clear hA0
 go_wp2_with fail
 refine hm E3 ?_;rintro x w4 ⟨rfl,K4⟩;have hnew:=heap_alloc_new w4 (.cells aD 26);have Wn:=setRow_heap (w4.alloc (.cells aD 26)) w4.heap.size aD A0 26 (0,0) hnew;have K5:Kp (λ_=>False) w4 ((w4.alloc (.cells aD 26)).setRow w4.heap.size A0):=((Kp.refl _ _).alloc _).setRow (λx=>by omega) _;have xJ:=hp3.ai (K4.trans K5);have B5:=B3.trans (aG (K4.trans K5) B3.size)
 have hsb:w.heap.size<=w4.heap.size:=by have:=B3.size;have:=K4.size;omega
 clear E3 K4 K5 B3 hp3
 go_upto_region 9 with(refine wpList_store_row rfl 26 (.tmp 9) (.tmp 35) rfl w4.heap.size A0 rfl rfl 26 aD hnew rI (by rw[rS];rfl) rO ?_)
 generalize (w4.alloc (.cells aD 26)).setRow w4.heap.size A0=w5 at*;generalize w4.heap.size=sb at*;clear hnew
 go_wp2_with (refine wpList_load_row rfl 26 (.tmp 9) rfl sb rfl 26 A0 (0,0) da Wn dE (by cases da<;>first|rfl|exact absurd bq (by simp[ak])) rI ?_)
 refine Calls.mono (Hid.out (EF _ xJ)) ?_;rintro x w6 ⟨rfl,K6⟩
 have Mr:jQ w6 sb (aH ol.ag s0):=by unfold jQ;rw[Z2.out];exact K6.at_ Wn (λx=>x)
 have hp6:=xJ.ai K6;have B6:=B5.trans (aG K6 B5.size);clear EF K6 Wn xJ B5 Z2 rO rI rS;have HS:=hid (ae Mr (ae hp6 B6));clear Mr hp6 B6
 go_wp2_with fail
 go_loopw [13] (λi wr=>∃(k:Nat) (s:Sd),i= .int .i64 k/\k<=ev.size/\Hid (Ch.Good ol s/\jQ wr sb (aH ol.ag s)/\Db wr pg P/\Below w.heap.size w wr)) (λi _=>ev.size-(intOf i).toNat)
 case atStart=>exact⟨0,s0,rfl,Nat.zero_le _,hid ⟨HG.out,HS.out.1,HS.out.2.1,HS.out.2.2⟩⟩
 case round=>
  obtain⟨k,s,rfl,hk,HH⟩:=hrel;clear HS HG;obtain⟨g,xK,hpr,BR⟩:=HH.out;clear HH
  by_cases hkl:k<ev.size
  ·have hkl':(k:Int)<(ev.size:Int):=by omega
   have hy0:(0:Int)<=(((ev[k]'hkl).toNat:Nat):Int):=by omega
   have hy1:(((ev[k]'hkl).toNat:Nat):Int)<256:=by have:=(ev[k]'hkl).toNat_lt;omega
   have Mt:=λW=>hid (wZ W 17 (by omega) T (aH ol.ag s) (((ev[k]'hkl).toNat:Nat):Int) g.sm (λ_ _=>(mZ HR.out.1 g hy0 hy1).2))
   have Z3:=hid (mZ HR.out.1 g hy0 hy1).1;have HG:=hid g;clear g;have rO:=bZ (aH ol.ag s);have rI:=fA (aH ol.ag s);have rS:(aN (aH ol.ag s)).size=6:=rfl;have hnp:=hpr.ne xK;unfold jQ at xK;generalize hA:aN (aH ol.ag s)=A at*;have HA:=hid hA;clear hA;generalize hb:(((ev[k]'hkl).toNat:Nat):Int)=y at*;generalize hgr:Ch.goes 17 T (aH ol.ag s) y=r3 at Mt Z3;obtain⟨ra,ro,re⟩:=r3;simp only at Mt;have qO:=bZ ra;have qI:=fA ra;have qS:(aN ra).size=6:=rfl;generalize rJ:aN ra=RA at*;have Da:=hid rJ;clear rJ hgr
   go_upto_region 15 with(fail)
   go_cut [14,15,16]from 59 to 68 (λv14 v15 v16 wx=>∃tb,v14= .pointer (some ⟨tb,0,none⟩)/\v15= .string ro/\v16= .int .i64 re/\wx.heap[tb]? =some (.cells RA 26 (0,0))/\wx.heap[sb]? =some (.cells A 26 (0,0))/\Db wx pg P/\Below w.heap.size w wx)
   case first=>
    have hS0:wr.drew.heap[sb]? =some (.cells A 26 (0,0)):=xK;have BD:Below w.heap.size w wr.drew:=BR.trans (aG ((Kp.refl (λ_=>False) wr).drew) BR.size);have hpd:Db wr.drew pg P:=hpr.ai ((Kp.refl (λ_=>False) wr).drew);refine az (λw'=>w'.heap[sb]? =some (.cells A 26 (0,0))) (by kernel_rfl) ?_;refine aU 0 60 (.string T) hS0 ?_;refine dM 1 61 (.agg A) rfl (λw' hS=>bu 26 (.tmp 9) rfl sb rfl 26 A (0,0) da hS dE (by cases da<;>first|rfl|exact absurd bq (by simp[ak])) rI) hS0 ?_;refine aU 2 62 (.string ev) hS0 ?_;refine aU 3 63 (.int .i64 (k:Int)) hS0 ?_;refine dM 4 64 (.int .u8 y) rfl (λw' _=>by simp[execOp,Act.eval,go_sem,hkl',hb]) hS0 ?_;refine k6 5 10 (by kernel_rfl) rfl rfl rfl rfl ?_ ?_
    ·refine bS (some 65) rfl 30 #[.string T,.agg A,.int .u8 y] (by simp[execOp,Act.eval,go_sem]) _ (λw'=>Kp (λ_=>False) wr.drew w') (Mt _).out ?_
     intro w7 K7;have vC:=K7.at_ hS0 (λx=>x);have hlt:=lt_of_block vC;have hnew:=heap_alloc_new w7 (.cells aD 26);have KA:Kp (λ_=>False) w7 ((w7.alloc (.cells aD 26)).setRow w7.heap.size RA):=((Kp.refl _ _).alloc _).setRow (λx=>by omega) _;have WE:=((Kp.refl (λ_=>False) w7).alloc (.cells aD 26)).at_ vC (λx=>x);have Ez:=KA.at_ vC (λx=>x);have SX:=setRow_heap (w7.alloc (.cells aD 26)) w7.heap.size aD RA 26 (0,0) hnew;have hp9:=hpd.ai (K7.trans KA);have B9:=BD.trans (aG (K7.trans KA) BD.size);refine⟨vC,?_⟩;simp only[Act.put,pA,pB,pC];refine aU 6 59 (.tuple #[.agg RA,.string ro,.int .i64 re]) vC ?_;refine aU 7 66 (.agg RA) vC ?_;refine aU 8 67 (.string ro) vC ?_;refine aU 9 68 (.int .i64 re) vC ?_;refine jD 10 ?_;refine dZ (some 14) rfl (.pointer (some ⟨w7.heap.size,0,none⟩)) (w7.alloc (.cells aD 26)) (by simp[execOp,go_sem]) ?_;refine⟨WE,?_⟩;simp only[Act.put,pA,pB,pC];refine bF 11 (by kernel_rfl) rfl rfl 26 (.tmp 14) (.tmp 66) rfl rfl w7.heap.size RA (by simp[Act.eval]) (by simp[Act.eval]) 26 aD hnew qI (by rw[qS];rfl) qO Ez ?_;refine aU 12 15 (.string ro) Ez ?_;refine aU 13 16 (.int .i64 re) Ez ?_;refine wpAnyH_done (by kernel_rfl) (NoPanic.normal ?_) _
     go_wp2_with fail
     go_meet
     exact⟨w7.heap.size,rfl,rfl,rfl,SX,Ez,hp9,B9⟩
    refine dZ (some 14) rfl (.pointer (some ⟨wr.heap.size,0,none⟩)) (wr.drew.alloc (.cells aD 26)) (by simp[execOp,go_sem]) ?_;have hnew:=heap_alloc_new wr.drew (.cells aD 26);have KA:=(Kp.refl (λ_=>False) wr.drew).alloc (.cells aD 26);have Mr:=KA.at_ hS0 (λx=>x);refine⟨Mr,?_⟩;simp only[Act.put,pA,pB,pC];refine jD 5 ?_;refine bS (some 65) rfl 30 #[.string T,.agg A,.int .u8 y] (by simp[execOp,Act.eval,go_sem]) _ (λw'=>Kp (λ_=>False) (wr.drew.alloc (.cells aD 26)) w') (Mt _).out ?_;intro w7 K7;have vC:=K7.at_ Mr (λx=>x);have h7t:=K7.at_ hnew (λx=>x);have hlt:=lt_of_block xK
    have hne:sb≠wr.drew.heap.size:=by show sb≠wr.heap.size;omega
    have Ez:(w7.setRow wr.drew.heap.size RA).heap[sb]? =some (.cells A 26 (0,0)):=(setRow_other _ _ _ _ hne).trans vC;have SX:=setRow_heap w7 wr.drew.heap.size _ RA 26 (0,0) h7t;have KB:Kp (λ_=>False) wr.drew (w7.setRow wr.drew.heap.size RA):=(KA.trans K7).setRow (λx=>by omega) _;have hp9:=hpd.ai KB;have B9:=BD.trans (aG KB BD.size);refine⟨vC,?_⟩;simp only[Act.put,pA,pB,pC];refine aU 6 59 (.tuple #[.agg RA,.string ro,.int .i64 re]) vC ?_;refine aU 7 66 (.agg RA) vC ?_;refine aU 8 67 (.string ro) vC ?_;refine aU 9 68 (.int .i64 re) vC ?_;refine bF 11 (by kernel_rfl) rfl rfl 26 (.tmp 14) (.tmp 66) rfl rfl wr.drew.heap.size RA (by simp[Act.eval]) (by simp[Act.eval]) 26 aD h7t qI (by rw[qS];rfl) qO Ez ?_;refine aU 12 15 (.string ro) Ez ?_;refine aU 13 16 (.int .i64 re) Ez ?_;refine wpAnyH_done (by kernel_rfl) (NoPanic.normal ?_) _
    go_wp2_with fail
    go_meet
    exact⟨wr.drew.heap.size,rfl,rfl,rfl,SX,Ez,hp9,B9⟩
   case rest=>
    obtain⟨tb,rfl,rfl,rfl,SX,Ez,hp9,B9⟩:=hcut;clear Mt xK hpr BR
    rcases Z3.out with⟨s',o',hgo,hg'⟩|⟨o',hgo⟩
    ·simp only[Prod.mk.injEq]at hgo
     obtain⟨rfl,rfl,rfl⟩:=hgo;have EF:=hid (JP wc (pcap:=pcap) HR.out.1 HR.out.2.1 HR.out.2.2 hg' hp9);rw[Da.out]at EF;have HG':=hid hg';clear hg'
     go_wp2_with (refine wpList_load_row rfl 26 (.tmp 14) rfl tb rfl 26 RA (0,0) da SX dE (by cases da<;>first|rfl|exact absurd bq (by simp[ak])) qI ?_)
     refine hm EF ?_;rintro x pe ⟨rfl,tF⟩;have SZ:=tF.at_ SX (λx=>x);have SY:=tF.at_ Ez (λx=>x);have afU:=hp9.ai tF;have B10:=B9.trans (aG tF B9.size);have WH:(pe.setRow sb RA).heap[sb]? =some (.cells RA 26 (0,0)):=setRow_heap _ _ _ _ _ _ SY;have KS:=(Kp.refl (λk=>k=sb) pe).setRow (g:=sb) (λ_=>rfl) RA;have ajy:=afU.keep KS hnp;have B12:=B10.trans (KS.below B10.size (λi x=>by omega));clear EF tF SX Ez hp9 B9 afU B10 KS
     go_wp2_with (first|refine wpList_load_row rfl 26 (.tmp 14) rfl tb rfl 26 RA (0,0) da SZ dE (by cases da<;>first|rfl|exact absurd bq (by simp[ak])) qI ?_|refine wpList_store_row rfl 26 (.tmp 9) (.tmp 81) rfl sb RA rfl rfl 26 A SY qI (by rw[rS,qS]) qO ?_)
     go_roundw
     case rel=>exact⟨k+1,s',by go_num,by omega,hid ⟨HG'.out,by unfold jQ;rw[Da.out];exact WH,ajy,B12⟩⟩
     case measure=>simp[intOf];omega
    simp only[Prod.mk.injEq]at hgo;obtain⟨rfl,rfl,rfl⟩:=hgo
    go_wp2_with fail
    go_roundw
    case rel=>exact⟨k+1,s,by go_num,by omega,hid ⟨HG.out,by unfold jQ;rw[HA.out];exact Ez,hp9,B9⟩⟩
    case measure=>simp[intOf];omega
  have hkl':¬(k:Int)<(ev.size:Int):=by omega
  go_wp2;go_ret;exact⟨rfl,BR⟩
end
end Go.Proofs.YtnlbchmfcebeeaaGreat
