import Derived.Test.YtnlbchmfcebeeaaGreatTSi
set_option maxHeartbeats 12800000
set_option maxRecDepth 100000
namespace Go.Proofs.YtnlbchmfcebeeaaGreat
open Go.Proofs.Tryz Ch
namespace Ch
def ki(n:Nat)(t:Tk):Bool:=decide (t.kind=3)&&decide (1<=t.steps)&&decide (t.pinned=(n:Int))
def dK(l:List Tk)(n:Nat):Nat:=l.countP (ki n)
def dA(made:Nat)(l:List Tk)(n:Nat):Bool:=decide (0<dK l n)||decide (made<=n+4)
def l7(all:List Sd)(l:List Tk)(n:Nat):Vr:=⟨n,all.getD n vJ,dK l n⟩
def cj(all:List Sd)(l:List Tk):List Vr:=((List.range all.length).filter (dA all.length l)).map (l7 all l)
theorem vN{all:List Sd}{l:List Tk}{v:Vr}:v∈cj all l↔∃n,n<all.length/\dA all.length l n=true/\v=l7 all l n:=by
 unfold cj;simp only[List.mem_map,List.mem_filter,List.mem_range]
 constructor
 ·rintro⟨n,⟨h1,h2⟩,rfl⟩;exact⟨n,h1,h2,rfl⟩
 rintro⟨n,h1,h2,rfl⟩;exact⟨n,⟨h1,h2⟩,rfl⟩
theorem Io{all:List Sd}{l l':List Tk}(h:∀n,dK l n=dK l' n):cj all l=cj all l':=by
 have e:dK l=dK l':=funext h;unfold cj dA l7;rw[e]
theorem vP{l:List Tk}{u:Nat}{t:Tk}(h:l[u]? =some t)(t':Tk)(n:Nat):dK (l.set u t') n+(if ki n t then 1 else 0)=dK l n+(if ki n t' then 1 else 0):=by
 obtain⟨hu,e⟩:=List.getElem?_eq_some_iff.1 h;unfold dK
 have e1:l=l.take u++t::l.drop (u+1):=by rw[<-e,<-List.drop_eq_getElem_cons hu,List.take_append_drop]
 have e2:l.set u t'=l.take u++t'::l.drop (u+1):=List.set_eq_take_append_cons_drop▸(if_pos hu);rw[e2]
 conv=>rhs;rw[e1]
 simp only[List.countP_append,List.countP_cons];omega
theorem UO(l:List Tk)(n:Nat):dK l n<=l.length:=List.countP_le_length
theorem zq{all:List Sd}{l:List Tk}(s:Sd)(h:dK l all.length=0):kJ (all.length+1) (cj all l++[⟨all.length,s,0⟩])=cj (all++[s]) l:=by
 unfold cj kJ;rw[List.length_append,List.length_singleton,List.range_succ,List.filter_append,List.filter_append,List.map_append]
 congr 1
 ·rw[List.filter_map,List.filter_filter]
  have e1:∀n∈List.range all.length,(dA (all.length+1) l n)=((tU (all.length+1)∘l7 all l) n&&dA all.length l n):=by
   intro n hn;unfold dA;simp only[Function.comp_apply,tU,l7]
   by_cases q:0<dK l n
   ·simp[q]
   by_cases q2:all.length+1<=n+4
   ·simp[q,q2];omega
   simp[q,q2]
  rw[List.filter_congr e1];apply List.map_congr_left;intro n hn
  have hn':n<all.length:=by
   have:=(List.mem_filter.1 hn).1;simpa using this
  unfold l7
  congr 1
  rw[List.getD_eq_getElem?_getD,List.getD_eq_getElem?_getD,List.getElem?_append_left hn']
 have e2:dA (all.length+1) l all.length=true:=by unfold dA;simp
 have e3:tU (all.length+1) ⟨all.length,s,0⟩=true:=by unfold tU;simp
 rw[List.filter_cons_of_pos e3,List.filter_cons_of_pos e2];simp only[List.filter_nil,List.map_cons,List.map_nil];unfold l7;rw[h,List.getD_eq_getElem?_getD,List.getElem?_append_right (Nat.le_refl _),Nat.sub_self];rfl
theorem yO{all:List Sd}{l:List Tk}{n:Nat}(hn:n<all.length)(hk:dA all.length l n=true):
 ∃k,(cj all l)[k]? =some (l7 all l n)/\∀(j:Nat) (v:Vr),(cj all l)[j]? =some v->v.num=n->j=k:=by
 have hm:n∈(List.range all.length).filter (dA all.length l):=List.mem_filter.2 ⟨by simpa using hn,hk⟩;obtain⟨k,hk2⟩:=List.mem_iff_getElem?.1 hm;refine⟨k,by unfold cj;rw[List.getElem?_map,hk2];rfl,?_⟩;intro j v hj hv;have hd:((List.range all.length).filter (dA all.length l)).Nodup:=List.Pairwise.filter _ List.nodup_range;unfold cj at hj;rw[List.getElem?_map]at hj
 cases q:((List.range all.length).filter (dA all.length l))[j]? with
 |none=>rw[q]at hj;simp at hj
 |some m=>?_
 rw[q]at hj;simp at hj;subst hj;have Y7:m=n:=hv;subst Y7;obtain⟨a1,b1⟩:=List.getElem?_eq_some_iff.1 q;obtain⟨a2,b2⟩:=List.getElem?_eq_some_iff.1 hk2
 rcases Nat.lt_trichotomy j k with e|e|e
 ·exact absurd (b1.trans b2.symm) (List.pairwise_iff_getElem.1 hd j k a1 a2 e)
 ·exact e
 exact absurd (b2.trans b1.symm) (List.pairwise_iff_getElem.1 hd k j a2 a1 e)
theorem LU{all:List Sd}{l:List Tk}(h:0<all.length):dF (cj all l)=all.getD (all.length-1) vJ:=by
 unfold dF cj
 obtain⟨m,hm⟩:∃m,all.length=m+1:=⟨all.length-1,by omega⟩
 rw[hm,List.range_succ,List.filter_append]
 have e2:dA (m+1) l m=true:=by unfold dA;simp
 rw[List.filter_cons_of_pos e2];simp[l7]
theorem PE{all:List Sd}{l:List Tk}(h:0<all.length):0<(cj all l).length:=by
 have:l7 all l (all.length-1)∈cj all l:=vN.2 ⟨_,by omega,by unfold dA;simp;omega,rfl⟩;exact List.length_pos_of_mem this
theorem PF{all:List Sd}{l:List Tk}{u:Nat}{t t':Tk}(hu:l[u]? =some t){n:Nat}(hn:n<all.length)(hk:dA all.length l n=true)(h0:∀m,ki m t=false)(h1:∀m,ki m t'=decide (m=n)):
 qT (cj all l) (n:Int)=(cj all (l.set u t'),true):=by
 obtain⟨k,hk1,hk2⟩:=yO (l:=l) hn hk
 have hpl:=LC (n:=(n:Int)) hk1 rfl (λj v hj hv e=>by
  have:=hk2 j v hv (by exact_mod_cast e)
  omega)
 rw[hpl]
 congr 1
 have hp:∀m,dK (l.set u t') m=dK l m+(if m=n then 1 else 0):=by
  intro m;have:=vP hu t' m;rw[h0,h1]at this;simpa using this
 have hkp:∀m,dA all.length (l.set u t') m=dA all.length l m:=by
  intro m;unfold dA;rw[hp]
  by_cases e:m=n
  ·subst e
   simp only[if_true];unfold dA at hk;rw[hk];simp
  simp[e]
 apply List.ext_getElem?;intro j;rw[List.getElem?_set];have hlen:k<(cj all l).length:=(List.getElem?_eq_some_iff.1 hk1).1;have e5:(List.range all.length).filter (dA all.length (l.set u t'))=(List.range all.length).filter (dA all.length l):=List.filter_congr (λm _=>hkp m)
 have e6:(cj all (l.set u t'))[j]? =((List.range all.length).filter (dA all.length l))[j]?.map (l7 all (l.set u t')):=by unfold cj;rw[e5,List.getElem?_map]
 rw[e6]
 have e7:(cj all l)[j]? =((List.range all.length).filter (dA all.length l))[j]?.map (l7 all l):=by unfold cj;rw[List.getElem?_map]
 have e8:(cj all l)[k]? =((List.range all.length).filter (dA all.length l))[k]?.map (l7 all l):=by unfold cj;rw[List.getElem?_map]
 by_cases ej:k=j
 ·subst ej
  rw[if_pos rfl,if_pos hlen];rw[hk1]at e8
  cases q:((List.range all.length).filter (dA all.length l))[k]? with
  |none=>rw[q]at e8;simp at e8
  |some m=>?_
  rw[q]at e8;simp only[Option.map_some,Option.some.injEq]at e8;have Y7:n=m:=congrArg Vr.num e8;subst Y7;simp only[Option.map_some,l7];rw[hp,if_pos rfl]
 rw[if_neg ej,e7]
 cases q:((List.range all.length).filter (dA all.length l))[j]? with
 |none=>rfl
 |some m=>?_
 have Y7:m≠n:=by
  intro e;apply ej;have:=hk2 j (l7 all l m) (by rw[e7,q];rfl) e;exact this.symm
 simp only[Option.map_some,l7];rw[hp,if_neg Y7];rfl
theorem PG{all:List Sd}{l:List Tk}{u:Nat}{t t':Tk}(hu:l[u]? =some t){n:Nat}(hn:n<all.length)(h0:∀m,ki m t=decide (m=n))(h1:∀m,ki m t'=false):
 UG all.length (cj all l) (n:Int)=cj all (l.set u t')/\FK (cj all l) (n:Int)=all.getD n vJ:=by
 have hp:∀m,dK l m=dK (l.set u t') m+(if m=n then 1 else 0):=by
  intro m;have:=vP hu t' m;rw[h0,h1]at this;simp at this;omega
 have hk:dA all.length l n=true:=by unfold dA;rw[hp,if_pos rfl];simp
 obtain⟨k,hk1,hk2⟩:=yO (l:=l) hn hk;have hat:=QZ hk1 (λj v hj hv=>hk2 j v hj hv);have hat':atK (cj all l) (n:Int)=some (k,l7 all l n):=hat;refine⟨?_,by unfold FK;rw[hat'];rfl⟩;unfold UG;rw[hat'];simp only;unfold DU kJ
 have hset:(cj all l).set k {l7 all l n with pins:=(l7 all l n).pins-1}=((List.range all.length).filter (dA all.length l)).map (l7 all (l.set u t')):=by
  apply List.ext_getElem?;intro j;rw[List.getElem?_set,List.getElem?_map]
  have e7:(cj all l)[j]? =((List.range all.length).filter (dA all.length l))[j]?.map (l7 all l):=by unfold cj;rw[List.getElem?_map]
  have hlen:k<(cj all l).length:=(List.getElem?_eq_some_iff.1 hk1).1
  by_cases ej:k=j
  ·subst ej
   rw[if_pos rfl,if_pos hlen];rw[hk1]at e7
   cases q:((List.range all.length).filter (dA all.length l))[k]? with
   |none=>rw[q]at e7;simp at e7
   |some m=>?_
   rw[q]at e7;simp only[Option.map_some,Option.some.injEq]at e7;have Y7:n=m:=congrArg Vr.num e7;subst Y7;simp only[Option.map_some,l7];rw[hp,if_pos rfl];rfl
  rw[if_neg ej,e7]
  cases q:((List.range all.length).filter (dA all.length l))[j]? with
  |none=>rfl
  |some m=>?_
  have Y7:m≠n:=by
   intro e;apply ej;have:=hk2 j (l7 all l m) (by rw[e7,q];rfl) e;exact this.symm
  simp only[Option.map_some,l7];rw[hp,if_neg Y7];rfl
 rw[hset,List.filter_map,List.filter_filter];unfold cj
 congr 1
 apply List.filter_congr;intro m hm;simp only[Function.comp_apply,tU,l7,dA];rw[hp m]
 by_cases q:0<dK (l.set u t') m
 ·simp[q];left;omega
 by_cases q2:all.length<=m+4
 ·simp[q,q2]
 simp[q,q2]
def readsOf(l:List Tk):Nat:=l.countP (λt=>decide (t.kind=3)&&decide (1<=t.steps))
theorem Ys(t:Tk):∀(K:List Nat),K.Nodup->(K.map (λk=>if ki k t then 1 else 0)).sum<=(if(decide (t.kind=3)&&decide (1<=t.steps))=true then 1 else 0):=by
 intro K
 induction K with
 |nil=>intro _;simp
 |cons k K ih=>?_
 intro h;obtain⟨h1,h2⟩:=List.nodup_cons.1 h;have h3:=ih h2;simp only[List.map_cons,List.sum_cons]
 by_cases q:ki k t=true
 ·have q':=q
  unfold ki at q';simp only[Bool.and_eq_true,decide_eq_true_eq]at q'
  have hz:(K.map (λk=>if ki k t then 1 else 0)).sum=0:=by
   apply List.sum_eq_zero_iff_forall_eq_nat.2;intro x hx;obtain⟨j,hj,rfl⟩:=List.mem_map.1 hx;rw[if_neg];intro e;unfold ki at e;simp only[Bool.and_eq_true,decide_eq_true_eq]at e
   have:j=k:=by have:=e.2.symm.trans q'.2;omega
   subst this;exact h1 hj
  rw[hz,if_pos q,if_pos (by simp[q'.1])];exact Nat.le_refl _
 rw[if_neg q];omega
theorem Yt:∀(l:List Tk) (K:List Nat),K.Nodup->(K.map (dK l)).sum<=readsOf l:=by
 intro l
 induction l with
 |nil=>
  intro K _
  have:(K.map (dK [])).sum=0:=by
   apply List.sum_eq_zero_iff_forall_eq_nat.2;intro x hx;obtain⟨j,hj,rfl⟩:=List.mem_map.1 hx;rfl
  rw[this];exact Nat.zero_le _
 |cons t l ih=>?_
 intro K hK;have h1:=ih K hK;have h2:=Ys t K hK
 have e:∀K:List Nat,(K.map (dK (t::l))).sum=(K.map (dK l)).sum+(K.map (λk=>if ki k t then 1 else 0)).sum:=by
  intro K
  induction K with
  |nil=>rfl
  |cons k K ih2=>?_
  simp only[List.map_cons,List.sum_cons];rw[ih2]
  have:dK (t::l) k=dK l k+(if ki k t then 1 else 0):=by unfold dK;rw[List.countP_cons]
  omega
 rw[e]
 have e2:readsOf (t::l)=readsOf l+(if(decide (t.kind=3)&&decide (1<=t.steps))=true then 1 else 0):=by unfold readsOf;rw[List.countP_cons]
 omega
theorem aa6(f:Nat->Nat):∀(K:List Nat),(∀k∈K,0<f k)->K.length<=(K.map f).sum:=by
 intro K
 induction K with
 |nil=>intro _;simp
 |cons k K ih=>?_
 intro h;have h1:=ih (λx hx=>h x (by simp[hx]));have h2:=h k (by simp);simp only[List.map_cons,List.sum_cons,List.length_cons];omega
def ug(n:Nat)(l:List Tk):List Nat:=(List.range n).filter (dA n l)
theorem CQ(all:List Sd)(l:List Tk):(cj all l).map Vr.num=ug all.length l:=by
 unfold cj ug;rw[List.map_map]
 conv=>rhs;rw[<-List.map_id ((List.range all.length).filter (dA all.length l))]
 rfl
theorem zr(n:Nat)(l:List Tk):ug n l=(List.range (n-4)).filter (dA n l)++List.range' (n-4) (n-(n-4)):=by
 unfold ug
 have e:List.range n=List.range (n-4)++List.range' (n-4) (n-(n-4)):=by
  rw[List.range_eq_range',List.range_eq_range',show n=(n-4)+(n-(n-4))by omega];have:=List.range'_append_1 (s:=0) (m:=n-4) (n:=n-(n-4));rw[Nat.zero_add]at this;rw[show(n-4+(n-(n-4)))-4=n-4 by omega,show(n-4+(n-(n-4))-(n-4))=n-(n-4)by omega];exact this.symm
 rw[e,List.filter_append]
 congr 1
 apply List.filter_eq_self.2;intro k hk;have:=List.mem_range'_1.1 hk;unfold dA;rw[decide_eq_true (show n<=k+4 by omega),Bool.or_true]
theorem UP(n:Nat)(l:List Tk):((List.range (n-4)).filter (dA n l)).length<=readsOf l:=by
 refine Nat.le_trans (aa6 (dK l) _ ?_) (Yt l _ (List.Pairwise.filter _ List.nodup_range));intro k hk;obtain⟨h1,h2⟩:=List.mem_filter.1 hk
 have h1:k<n-4:=by simpa using h1
 unfold dA at h2;rw[decide_eq_false (show¬n<=k+4 by omega),Bool.or_false]at h2;simpa using h2
theorem PH(l:List Tk):readsOf l<=l.length:=List.countP_le_length
theorem FN(n:Nat)(l:List Tk):n-(n-4)<=(ug n l).length/\(ug n l).length<=(n-(n-4))+readsOf l:=by
 have h:=UP n l;rw[zr,List.length_append,List.length_range'];omega
theorem PI(n:Nat)(l:List Tk):(ug n l).Pairwise (· < ·):=List.Pairwise.filter _ List.pairwise_lt_range
theorem Yu{n:Nat}{l:List Tk}{k:Nat}(h:k∈ug n l):k<n:=by
 have:=(List.mem_filter.1 h).1;simpa using this
theorem Yv{n:Nat}(l:List Tk)(hn:0<n):(ug n l)[(ug n l).length-(n-(n-4))]? =some (n-4):=by
 rw[zr,List.length_append,List.length_range',Nat.add_sub_cancel,List.getElem?_append_right (Nat.le_refl _),Nat.sub_self,List.getElem?_range']
 ·simp
 omega
theorem CR(all:List Sd)(l:List Tk):(cj all l).length<=4+l.length:=by
 have h:=(FN all.length l).2;have e:=congrArg List.length (CQ all l);rw[List.length_map]at e;have:=PH l;omega
def gT(ol:Ol)(s:Sd)(ev:ByteArray):Nat->Option (Sd×ByteArray)
 |0=>some (s,⟨#[]⟩)
 |k+1=>match gT ol s ev k with
  |some r=>if(aQ ol r.1 (af ev k)).2.2==0 then some ((aQ ol r.1 (af ev k)).1,r.2++(aQ ol r.1 (af ev k)).2.1)else none
  |none=>none
def lastOf(all:List Sd):Sd:=all.getD (all.length-1) vJ
structure TkI(ol:Ol)(all:List Sd)(turn bA:Nat)(t:Tk):Prop where
 idle:t.kind=0->t=fB
 rq:t.kind≠0->mT ⟨t.kind,t.events,t.at_⟩=true
 dr:t.drawn=true->(t.kind=1\/t.kind=2)/\turn<=t.ticket/\t.ticket<bA
 st:t.steps<=2
 st0:t.kind≠3->t.steps=0
 pin:t.kind=3->1<=t.steps->0<=t.pinned/\t.pinned<(all.length:Int)/\(0<=t.at_->t.pinned=t.at_)
 LW:t.fired=0->t.out=⟨#[]⟩
 wk:0<t.fired->t.kind=1/\t.drawn=true/\t.ticket=turn/\t.fired<t.events.size/\(t.at_<0\/t.at_=(all.length:Int)-1)/\gT ol (lastOf all) t.events t.fired=some (t.now,t.out)
structure SI(ol:Ol)(x:Sv)(all:List Sd)(log:ByteArray):Prop where
 made:x.made=all.length
 pos:0<all.length
 kept:x.kept=cj all x.tasks
 good:∀s∈all,Good ol s
 joined:x.joined=log.size
 tail:x.tail=log.extract (log.size-24) log.size
 len:x.tasks.length<=6
 tk:∀(u:Nat) (t:Tk),x.tasks[u]? =some t->TkI ol all x.turn x.bA t
 uniq:∀(i j:Nat) (ti tj:Tk),x.tasks[i]? =some ti->x.tasks[j]? =some tj->ti.drawn=true->tj.drawn=true->ti.ticket=tj.ticket->i=j
 cov:∀k,x.turn<=k->k<x.bA->∃(i:Nat) (t:Tk),x.tasks[i]? =some t/\t.drawn=true/\t.ticket=k
 le:x.turn<=x.bA
theorem Q0(ol:Ol)(all:List Sd)(a b:Nat):TkI ol all a b fB:=
 ⟨λ_=>rfl,λh=>absurd rfl h,λh=>by simp[fB]at h,by simp[fB],λ_=>rfl,λh=>by simp[fB]at h,λ_=>rfl,λh=>by simp[fB]at h⟩
theorem uh(m:Nat):ki m fB=false:=by simp[ki,fB]
theorem uP{t:Tk}(h:t.kind≠3)(m:Nat):ki m t=false:=by simp[ki,h]
theorem vQ{t:Tk}(h:t.steps=0)(m:Nat):ki m t=false:=by simp[ki,h]
theorem fK{l:List Tk}{u i:Nat}{t' a:Tk}(h:(l.set u t')[i]? =some a):(i=u/\a=t')\/(i≠u/\l[i]? =some a):=by
 rw[List.getElem?_set]at h
 split at h
 ·rename_i e
  split at h
  ·simp at h;exact .inl ⟨e.symm,h.symm⟩
  simp at h
 rename_i e;exact .inr ⟨λx=>e x.symm,h⟩
section
variable {ol:Ol} {x:Sv} {all:List Sd} {log:ByteArray}
theorem SI.kp(h:SI ol x all log){u:Nat}{t t':Tk}(hu:x.tasks[u]? =some t)(hp:∀m,ki m t'=ki m t):cj all (x.tasks.set u t')=x.kept:=by
 rw[h.kept];apply Io;intro n;have:=vP hu t' n;rw[hp]at this;omega
theorem SI.set(h:SI ol x all log){u:Nat}{t t':Tk}(hu:x.tasks[u]? =some t)(hp:∀m,ki m t'=ki m t)(hI:TkI ol all x.turn x.bA t')(hd:t'.drawn=t.drawn)(ht:t.drawn=true->t'.ticket=t.ticket):SI ol (ay x u t') all log:=by
 have hlt:=(List.getElem?_eq_some_iff.1 hu).1;refine⟨h.made,h.pos,(h.kp hu hp).symm,h.good,h.joined,h.tail,by simpa[ay]using h.len,?_,?_,?_,h.le⟩
 ·intro i a ha
  rcases fK ha with⟨_,rfl⟩|⟨_,ha⟩
  ·exact hI
  exact h.tk i a ha
 ·intro i j ti tj hi hj di dj e
  rcases fK hi with⟨rfl,rfl⟩|⟨ni,hi'⟩
  ·rcases fK hj with⟨rfl,rfl⟩|⟨nj,hj'⟩
   ·rfl
   exact h.uniq _ _ _ _ hu hj' (by rw[<-hd];exact di) dj (by rw[<-ht (by rw[<-hd];exact di)];exact e)
  rcases fK hj with⟨rfl,rfl⟩|⟨nj,hj'⟩
  ·exact h.uniq _ _ _ _ hi' hu di (by rw[<-hd];exact dj) (by rw[<-ht (by rw[<-hd];exact dj)];exact e)
  exact h.uniq _ _ _ _ hi' hj' di dj e
 intro k h1 h2;obtain⟨i,a,hi,di,e⟩:=h.cov k h1 h2
 by_cases q:i=u
 ·subst q
  rw[hu]at hi;simp at hi;subst hi;exact⟨i,t',by simp[ay,hlt],by rw[hd];exact di,by rw[ht di];exact e⟩
 exact⟨i,a,by simp only[ay];rw[List.getElem?_set_ne (λx=>q x.symm)];exact hi,di,e⟩
theorem SI.end_(h:SI ol x all log){u:Nat}{t:Tk}(hu:x.tasks[u]? =some t)(hp:∀m,ki m t=false)(hd:t.drawn=false):SI ol (ay x u fB) all log:=
 h.set hu (λm=>by rw[uh,hp]) (Q0 _ _ _ _) (by rw[hd];rfl) (λe=>by rw[hd]at e;cases e)
theorem TkI.ticket{a b b':Nat}{t:Tk}(h:TkI ol all a b t)(hb:b<=b'):TkI ol all a b' t:=
 ⟨h.idle,h.rq,λd=>⟨(h.dr d).1,(h.dr d).2.1,Nat.lt_of_lt_of_le (h.dr d).2.2 hb⟩,h.st,h.st0,h.pin,h.LW,h.wk⟩
theorem SI.draw(h:SI ol x all log){u:Nat}{t:Tk}(hu:x.tasks[u]? =some t)(hk:t.kind=1\/t.kind=2)(hd:t.drawn=false):SI ol (ud x u t) all log:=by
 have hlt:=(List.getElem?_eq_some_iff.1 hu).1;have hI:=h.tk u t hu
 have k3:t.kind≠3:=by rcases hk with e|e<;>omega
 have hf:t.fired=0:=by
  rcases Nat.eq_zero_or_pos t.fired with e|e
  ·exact e
  have:=(hI.wk e).2.1;rw[hd]at this;cases this
 refine⟨h.made,h.pos,?_,h.good,h.joined,h.tail,by simpa[ud,ay]using h.len,?_,?_,?_,?_⟩
 ·exact(h.kp hu (t':={t with drawn:=true,ticket:=x.bA}) (λm=>rfl)).symm
 ·intro i a ha
  rcases fK ha with⟨_,rfl⟩|⟨_,ha⟩
  ·refine⟨λe=>?_,hI.rq,λ_=>⟨hk,h.le,?_⟩,hI.st,hI.st0,hI.pin,hI.LW,λe=>?_⟩
   ·simp only at e;rcases hk with e'|e'<;>omega
   ·show x.bA<x.bA+1;omega
   simp only at e;omega
  exact(h.tk i a ha).ticket (Nat.le_succ _)
 ·intro i j ti tj hi hj di dj e
  rcases fK hi with⟨rfl,rfl⟩|⟨ni,hi'⟩
  ·rcases fK hj with⟨rfl,rfl⟩|⟨nj,hj'⟩
   ·rfl
   have:=((h.tk _ _ hj').dr dj).2.2;simp only at e;omega
  rcases fK hj with⟨rfl,rfl⟩|⟨nj,hj'⟩
  ·have:=((h.tk _ _ hi').dr di).2.2
   simp only at e;omega
  exact h.uniq _ _ _ _ hi' hj' di dj e
 ·intro k h1 h2
  by_cases q:k=x.bA
  ·exact⟨u,{t with drawn:=true,ticket:=x.bA},by simp[ud,ay,hlt],rfl,q.symm⟩
  have h2':k<x.bA:=by have:k<x.bA+1:=h2;omega
  obtain⟨i,a,hi,di,e⟩:=h.cov k h1 h2'
  have hiu:i≠u:=by
   intro e2;subst e2;rw[hu]at hi;simp at hi;subst hi;rw[hd]at di;cases di
  exact⟨i,a,by simp only[ud,ay];rw[List.getElem?_set_ne (λx=>hiu x.symm)];exact hi,di,e⟩
 show x.turn<=x.bA+1;have:=h.le;omega
def mF(x:Sv)(u:Nat):Sv:={ay x u fB with turn:=x.turn+1}
theorem SI.done(h:SI ol x all log){u:Nat}{t:Tk}(hu:x.tasks[u]? =some t)(hd:t.drawn=true)(ht:t.ticket=x.turn):SI ol (mF x u) all log/\∀(i:Nat) (a:Tk),(mF x u).tasks[i]? =some a->a.fired=0:=by
 have hI:=h.tk u t hu
 have k3:t.kind≠3:=by rcases(hI.dr hd).1 with e|e<;>omega
 have hfr:∀(i:Nat) (a:Tk),i≠u->x.tasks[i]? =some a->a.fired=0:=by
  intro i a hi ha
  rcases Nat.eq_zero_or_pos a.fired with e|e
  ·exact e
  have w:=(h.tk i a ha).wk e;exact absurd (h.uniq i u a t ha hu w.2.1 hd (by rw[w.2.2.1,ht])) hi
 refine⟨⟨h.made,h.pos,(h.kp hu (t':=fB) (λm=>by rw[uh,uP k3])).symm,h.good,h.joined,h.tail,by simpa[mF,ay]using h.len,?_,?_,?_,?_⟩,?_⟩
 ·intro i a ha
  rcases fK ha with⟨_,rfl⟩|⟨ni,ha⟩
  ·exact Q0 _ _ _ _
  have hA:=h.tk i a ha;refine⟨hA.idle,hA.rq,λd=>⟨(hA.dr d).1,?_,(hA.dr d).2.2⟩,hA.st,hA.st0,hA.pin,hA.LW,λe=>?_⟩
  ·have h1:=(hA.dr d).2.1
   have h2:a.ticket≠x.turn:=λe=>ni (h.uniq i u a t ha hu d hd (by rw[e,ht]))
   show x.turn+1<=a.ticket;omega
  have:=hfr i a ni ha;omega
 ·intro i j ti tj hi hj di dj e
  rcases fK hi with⟨rfl,rfl⟩|⟨ni,hi'⟩
  ·simp[fB]at di
  rcases fK hj with⟨rfl,rfl⟩|⟨nj,hj'⟩
  ·simp[fB]at dj
  exact h.uniq _ _ _ _ hi' hj' di dj e
 ·intro k h1 h2
  have h1':x.turn+1<=k:=h1;obtain⟨i,a,hi,di,e⟩:=h.cov k (by omega) h2
  have hiu:i≠u:=by
   intro e2;subst e2;rw[hu]at hi;simp at hi;subst hi;omega
  exact⟨i,a,by simp only[mF,ay];rw[List.getElem?_set_ne (λx=>hiu x.symm)];exact hi,di,e⟩
 ·have:=(hI.dr hd).2.2
  show x.turn+1<=x.bA;omega
 intro i a ha
 rcases fK ha with⟨_,rfl⟩|⟨ni,ha⟩
 ·rfl
 exact hfr i a ni ha
theorem aa7{α:Type}(A T O:List α)(h:24<=T.length):(T++O).drop (T.length+O.length-24)=(A++T++O).drop (A.length+T.length+O.length-24):=by
 have hn:A.drop (A.length+T.length+O.length-24)=[]:=List.drop_eq_nil_of_le (by omega);rw[List.append_assoc,List.drop_append (l₁:=A),hn,List.nil_append]
 congr 1
 omega
theorem ad7{α:Type}(L O:List α):(L.drop (L.length-24)++O).drop ((L.drop (L.length-24)).length+O.length-24)=(L++O).drop (L.length+O.length-24):=by
 by_cases q:L.length<=24
 ·rw[show L.length-24=0 by omega];simp
 have hT:(L.drop (L.length-24)).length=L.length-(L.length-24):=List.length_drop
 have hA:(L.take (L.length-24)).length=L.length-24:=by rw[List.length_take];omega
 have:=aa7 (L.take (L.length-24)) (L.drop (L.length-24)) O (by omega);rw[this,List.take_append_drop,hT,hA]
 congr 1
 omega
theorem Ap(b:ByteArray)(k:Nat):(b.extract k b.size).data.toList=b.data.toList.drop k:=by
 rw[ByteArray.data_extract,Array.toList_extract,List.extract_eq_take_drop];apply List.take_of_length_le;rw[List.length_drop];exact Nat.le_refl _
theorem LX(log o:ByteArray):CJ (log.extract (log.size-24) log.size) o=(log++o).extract ((log++o).size-24) (log++o).size:=by
 unfold CJ;apply ByteArray.ext;apply Array.toList_inj.1;rw[Ap,Ap,ByteArray.data_append,Array.toList_append,ByteArray.data_append,Array.toList_append,Ap];have e1:log.size=log.data.toList.length:=(Array.length_toList).symm;have e2:o.size=o.data.toList.length:=(Array.length_toList).symm
 have e3:(log.extract (log.size-24) log.size++o).size=(log.data.toList.drop (log.data.toList.length-24)).length+o.data.toList.length:=by
  rw[ByteArray.size_append,ByteArray.size_extract,List.length_drop,<-e1,<-e2];omega
 rw[e3,ByteArray.size_append,e1,e2];exact ad7 _ _
theorem Yw(h:SI ol x all log):dK x.tasks all.length=0:=by
 unfold dK;apply List.countP_eq_zero.2;intro t ht;obtain⟨i,hi⟩:=List.mem_iff_getElem?.1 ht;have hI:=h.tk i t hi;intro e;unfold ki at e;simp only[Bool.and_eq_true,decide_eq_true_eq]at e;have:=(hI.pin e.1.1 e.1.2).2.1;omega
theorem SI.pub(h:SI ol x all log)(hf:∀(i:Nat) (a:Tk),x.tasks[i]? =some a->a.fired=0){s:Sd}(hs:Good ol s)(o:ByteArray):SI ol (j1 x s o) (all++[s]) (log++o):=by
 have hl:(all++[s]).length=all.length+1:=by simp
 refine⟨by rw[hl];show x.made+1=_;rw[h.made],by omega,?_,?_,?_,?_,h.len,?_,h.uniq,h.cov,h.le⟩
 ·show kJ (x.made+1) (x.kept++[⟨x.made,s,0⟩])=cj (all++[s]) x.tasks
  rw[h.made,h.kept];exact zq s (Yw h)
 ·intro a ha
  rcases List.mem_append.1 ha with ha|ha
  ·exact h.good a ha
  simp at ha;subst ha;exact hs
 ·show x.joined+o.size=_
  rw[h.joined,ByteArray.size_append]
 ·show CJ x.tail o=_
  rw[h.tail];exact LX log o
 intro i a ha;have hA:=h.tk i a ha;refine⟨hA.idle,hA.rq,hA.dr,hA.st,hA.st0,λk1 k2=>?_,hA.LW,λe=>?_⟩
 ·have:=hA.pin k1 k2
  exact⟨this.1,by rw[hl];omega,this.2.2⟩
 have:=hf i a ha;omega
theorem SI.dF(h:SI ol x all log):Ch.dF x.kept=lastOf all:=by rw[h.kept];exact LU h.pos
theorem SI.LY(h:SI ol x all log):Good ol (lastOf all):=by
 apply h.good;unfold lastOf;rw[List.getD_eq_getElem?_getD,List.getElem?_eq_getElem (by have:=h.pos;omega)];exact List.getElem_mem _
end
theorem ad8:∀(n:Nat) {l:List Int},l.length<=n->TL 49 l->∀y∈l,1<=y:=by
 intro n
 induction n with
 |zero=>
  intro l hl _ y hy;have e:l=[]:=List.eq_nil_of_length_eq_zero (by omega);subst e
  cases hy
 |succ n ih=>?_
 intro l hl h y hy
 match l,h with
 | [],_=>cases hy
 | [a],h=>exact absurd h (by simp[TL])
 |a::b::l,h=>
  obtain⟨h1,h2⟩:=h;simp only[List.length_cons]at hl
  rcases List.mem_cons.1 hy with rfl|hy
  ·have:=h1.1;unfold bR at this;simp at this;omega
  rcases List.mem_cons.1 hy with rfl|hy
  ·have:=h1.2.1;omega
  exact ih (by omega) h2 y hy
theorem Good.ad9{ol:Ol}{s:Sd}(g:Good ol s):∀k,k<s.tm.size->1<=af s.tm k:=by
 intro k hk
 have hm:af s.tm k∈dW s.tm:=by
  unfold af dW;rw[dif_pos hk];exact List.mem_map.2 ⟨s.tm[k],by rw[ByteArray.getElem_eq_getElem_data];exact Array.getElem_mem_toList _,rfl⟩
 exact ad8 _ (Nat.le_refl _) g.tl.1 _ hm
section
variable {t:ByteArray} {ol:Ol}
theorem Good.wait(hR:qw t ol){s:Sd}(g:Good ol s):(cI ol 17 (tick s) []).isSome=true:=by
 obtain⟨e1,e2⟩:=g.lg hR;have:=yv e1;rw[e2,hR.rd]at this;exact this
theorem zu(hR:qw t ol){s:Sd}(g:Good ol s)(ev:ByteArray):∀(k:Nat) {r:Sd×ByteArray},gT ol s ev k=some r->Good ol r.1:=by
 intro k
 induction k with
 |zero=>intro r h;simp[gT]at h;subst h;exact g
 |succ k ih=>?_
 intro r h;simp only[gT]at h
 cases q:gT ol s ev k with
 |none=>rw[q]at h;simp at h
 |some r0=>?_
 rw[q]at h;simp only at h
 split at h
 ·rename_i c
  simp at h;subst h;exact mX hR (ih q) (by simpa using c)
 simp at h
end
theorem LZ{ol:Ol}(hol:ol.Ok)(s:Sd)(ev:ByteArray):∀(k:Nat) {r:Sd×ByteArray},gT ol s ev k=some r->r.2.size<=117000000*k:=by
 intro k
 induction k with
 |zero=>intro r h;simp[gT]at h;subst h;exact Nat.zero_le _
 |succ k ih=>?_
 intro r h;simp only[gT]at h
 cases q:gT ol s ev k with
 |none=>rw[q]at h;simp at h
 |some r0=>?_
 rw[q]at h;simp only at h
 split at h
 ·simp at h;subst h
  have h1:=ih q;have h2:=jW hol r0.1 (af ev k);show(r0.2++_).size<=_;rw[ByteArray.size_append];omega
 simp at h
theorem uQ{r:Rq}(h:mT r=true):r.kind=1\/r.kind=2\/r.kind=3\/r.kind=4:=by
 unfold mT at h
 split at h
 ·exact .inl ‹_›
 split at h
 ·exact .inr (.inl ‹_›)
 split at h
 ·exact .inr (.inr (.inl ‹_›))
 split at h
 ·exact .inr (.inr (.inr ‹_›))
 cases h
theorem lF{r:Rq}(h:mT r=true)(hk:r.kind=1):1<=r.events.size/\r.events.size<=4/\(∀j,j<r.events.size->bR (af r.events j)=true)/\ -1<=r.at_:=by
 unfold mT at h;rw[if_pos hk]at h;simp only[Bool.and_eq_true,decide_eq_true_eq]at h;obtain⟨h1,h2⟩:=h;unfold gK at h1;simp only[Bool.and_eq_true,decide_eq_true_eq,List.all_eq_true,List.mem_range]at h1;exact⟨h1.1.1,h1.1.2,h1.2,h2⟩
section
variable {t:ByteArray} {ol:Ol} {x:Sv} {all:List Sd} {log:ByteArray}
theorem SI.bd(h:SI ol x all log)(hm:all.length<=1000000000000)(hl:log.size<=100000000000000000)(ht:x.bA<=1000000000000):x.Bd:=by
 have h6:=h.len
 have hts:x.tail.size=log.size-(log.size-24):=by rw[h.tail,ByteArray.size_extract];omega
 refine⟨by rw[h.made];omega,?_,?_,by rw[h.joined];omega,by omega,by rw[h.joined];omega,by omega,by have:=h.le;omega,h6⟩
 ·rw[h.kept]
  have:=CR all x.tasks;omega
 intro v hv;rw[h.kept]at hv;obtain⟨n,h1,_,rfl⟩:=vN.1 hv;have:=UO x.tasks n;exact⟨by show n<=_;omega,by show dK x.tasks n<=_;omega⟩
theorem SI.FO(h:SI ol x all log)(hR:qw t ol)(hol:ol.Ok){u:Nat}{k:Tk}(hu:x.tasks[u]? =some k):StP ol x k:=by
 have hI:=h.tk u k hu;refine⟨λh3=>⟨by have:=hI.st;omega,λh2=>?_⟩,λn3 n4 hd=>?_⟩
 ·obtain⟨p1,p2,_⟩:=hI.pin h3 (by omega)
  obtain⟨n,hn⟩:∃n:Nat,k.pinned=(n:Int):=⟨k.pinned.toNat,by omega⟩
  have hn1:n<all.length:=by omega
  have hpn:0<dK x.tasks n:=by
   unfold dK;apply List.countP_pos_iff.2;refine⟨k,List.mem_of_getElem? hu,?_⟩;unfold ki;simp only[h3,hn,decide_true,Bool.true_and,Bool.and_true,decide_eq_true_eq];omega
  have hk:dA all.length x.tasks n=true:=by unfold dA;rw[decide_eq_true hpn];rfl
  obtain⟨j,hj1,hj2⟩:=yO (l:=x.tasks) hn1 hk;refine⟨j,l7 all x.tasks n,by rw[h.kept];exact hj1,hn,hpn,?_⟩;intro i v hi hv;rw[h.kept]at hi;exact hj2 i v hi hv
 have hg:=h.LY;have hlk:=h.dF;refine⟨by rw[h.kept];exact PE h.pos,by rw[hlk];exact hg.ok,by rw[hlk];exact hg.ad9,by rw[hlk];exact hg.wait hR,?_,?_,?_⟩
 ·unfold oO
  split
  ·show(Ch.dF x.kept).Ok
   rw[hlk];exact hg.ok
  rename_i q;exact(zu hR hg _ _ (hI.wk (by omega)).2.2.2.2.2).ok
 ·rcases Nat.eq_zero_or_pos k.fired with e|e
  ·omega
  have w:=hI.wk e;have:=lF (hI.rq (by rw[w.1];decide)) w.1;have h4:k.events.size<=4:=this.2.1;have:=w.2.2.2.1;omega
 rcases Nat.eq_zero_or_pos k.fired with e|e
 ·rw[hI.LW e];exact Nat.zero_le _
 have w:=hI.wk e;have:=lF (hI.rq (by rw[w.1];decide)) w.1;have h4:k.events.size<=4:=this.2.1;have h5:=w.2.2.2.1;have:=LZ hol _ _ _ w.2.2.2.2.2;simp only at this;omega
end
theorem xC{x:Sv}{u:Nat}{k:Tk}(hu:x.tasks[u]? =some k):ue x (u:Int)=some k:=by
 unfold ue;rw[if_pos (by omega)];exact hu
theorem vR{ol:Ol}{x:Sv}{u:Nat}{k:Tk}(hu:x.tasks[u]? =some k)(h0:k.kind=0):cZ ol x (u:Int)=(x,dR,false,13):=by
 unfold cZ;rw[xC hu];simp only;rw[if_pos h0]
theorem nY{ol:Ol}{x:Sv}{u:Nat}{k:Tk}(hu:x.tasks[u]? =some k)(h0:k.kind≠0):cZ ol x (u:Int)=(if(kh ol x u k).2.2 then ay (kh ol x u k).1 u fB else(kh ol x u k).1,(kh ol x u k).2.1,(kh ol x u k).2.2,0):=by
 unfold cZ;rw[xC hu];simp only[Int.toNat_natCast];rw[if_neg h0]
section
variable {t:ByteArray} {ol:Ol} {x:Sv} {all:List Sd} {log:ByteArray} {u:Nat} {k:Tk}
theorem CS(hk:k.kind=1\/k.kind=2):kh ol x u k=mE ol x u k:=by
 unfold kh;rw[if_neg (by rcases hk with e|e<;>rw[e]<;>decide),if_neg (by rcases hk with e|e<;>rw[e]<;>decide)]
theorem Yx(hk:k.kind=4):kh ol x u k=(x,qU x k.at_,true):=by
 unfold kh;rw[if_neg (by rw[hk];decide),if_pos hk]
theorem CT(hk:k.kind=3):kh ol x u k=mD ol x u k:=by
 unfold kh;rw[if_pos hk]
theorem UQ(hd:k.drawn=false):mE ol x u k=(ud x u k,dR,false):=by
 unfold mE;rw[if_pos hd]
theorem UR(hd:k.drawn=true)(ht:k.ticket≠x.turn):mE ol x u k=(x,dR,false):=by
 unfold mE;rw[if_neg (by rw[hd];decide),if_pos ht]
theorem SI.poll(h:SI ol x all log)(hu:x.tasks[u]? =some k)(hk:k.kind=4):cZ ol x (u:Int)=(ay x u fB,qU x k.at_,true,0)/\SI ol (ay x u fB) all log:=by
 refine⟨?_,h.end_ hu (uP (by rw[hk];decide)) ?_⟩
 ·rw[nY hu (by rw[hk];decide),Yx hk]
  rfl
 cases q:k.drawn with
 |false=>rfl
 |true=>have:=((h.tk u k hu).dr q).1;rw[hk]at this;simp at this
theorem SI.draws(h:SI ol x all log)(hu:x.tasks[u]? =some k)(hk:k.kind=1\/k.kind=2)(hd:k.drawn=false):cZ ol x (u:Int)=(ud x u k,dR,false,0)/\SI ol (ud x u k) all log:=by
 refine⟨?_,h.draw hu hk hd⟩;rw[nY hu (by rcases hk with e|e<;>rw[e]<;>decide),CS hk,UQ hd];rfl
theorem SI.waits(hu:x.tasks[u]? =some k)(hk:k.kind=1\/k.kind=2)(hd:k.drawn=true)(ht:k.ticket≠x.turn):cZ ol x (u:Int)=(x,dR,false,0):=by
 rw[nY hu (by rcases hk with e|e<;>rw[e]<;>decide),CS hk,UR hd ht];rfl
theorem xD(hu:x.tasks[u]? =some k)(hk:k.kind=1\/k.kind=2)(hd:k.drawn=true)(ht:k.ticket=x.turn):cZ ol x (u:Int)=(if(eE ol x u k).2.2 then ay {(eE ol x u k).1 with turn:=(eE ol x u k).1.turn+1} u fB else(eE ol x u k).1,(eE ol x u k).2.1,(eE ol x u k).2.2,0):=by
 rw[nY hu (by rcases hk with e|e<;>rw[e]<;>decide)]
 have e:kh ol x u k=({(eE ol x u k).1 with turn:=if(eE ol x u k).2.2 then(eE ol x u k).1.turn+1 else(eE ol x u k).1.turn},(eE ol x u k).2):=by
  rw[CS hk];unfold mE;rw[if_neg (by rw[hd];decide),if_neg (by simp[ht])]
 rw[e];generalize eE ol x u k=M;obtain⟨X,R,d⟩:=M
 cases d with
 |true=>rfl
 |false=>rfl
theorem SI.ab5(h:SI ol x all log)(hR:qw t ol)(hu:x.tasks[u]? =some k)(hk:k.kind=2)(hd:k.drawn=true)(ht:k.ticket=x.turn):
 cZ ol x (u:Int)=(j1 (mF x u) (vX ol (lastOf all)).1 (vX ol (lastOf all)).2,{dR with ia:=(all.length:Int),text:=(vX ol (lastOf all)).2},true,0)/\SI ol (j1 (mF x u) (vX ol (lastOf all)).1 (vX ol (lastOf all)).2) (all++[(vX ol (lastOf all)).1]) (log++(vX ol (lastOf all)).2):=by
 obtain⟨hD,hf⟩:=h.done hu hd ht;have hg:=h.LY;have hw:=uH hR 17 hg.mid (xB (hg.wait hR));refine⟨?_,hD.pub hf hw _⟩;rw[xD hu (.inr hk) hd ht]
 have e:eE ol x u k=(j1 x (vX ol (lastOf all)).1 (vX ol (lastOf all)).2,{dR with ia:=(all.length:Int),text:=(vX ol (lastOf all)).2},true):=by
  unfold eE;rw[if_pos hk];unfold vh;rw[h.dF,h.made]
 rw[e];rfl
theorem SI.t_(h:SI ol x all log)(hu:x.tasks[u]? =some k)(hk:k.kind=1)(hd:k.drawn=true)(ht:k.ticket=x.turn)(hf:k.fired=0)(h0:0<=k.at_)(h1:k.at_≠(all.length:Int)-1):
 cZ ol x (u:Int)=(mF x u,{dR with err:=14,ia:=(all.length:Int)-1},true,0)/\SI ol (mF x u) all log:=by
 refine⟨?_,(h.done hu hd ht).1⟩;rw[xD hu (.inl hk) hd ht]
 have e:eE ol x u k=(x,{dR with err:=14,ia:=(all.length:Int)-1},true):=by
  unfold eE;rw[if_neg (by rw[hk];decide)];unfold r9
  have:Ch.t_ x k=true:=by
   unfold Ch.t_;rw[h.made];simp[hf,h0,h1]
  rw[if_pos this];unfold ib;rw[h.made]
 rw[e];rfl
theorem SI.ab6(h:SI ol x all log)(hR:qw t ol)(hu:x.tasks[u]? =some k)(hk:k.kind=1)(hd:k.drawn=true)(ht:k.ticket=x.turn)(hv:0<k.fired\/k.at_<0\/k.at_=(all.length:Int)-1):
 ∃s o,gT ol (lastOf all) k.events k.fired=some (s,o)/\k.fired<k.events.size/\
 ((gT ol (lastOf all) k.events (k.fired+1)=none/\(aQ ol s (af k.events k.fired)).2.2≠0/\cZ ol x (u:Int)=(mF x u,{dR with err:=9,ia:=(all.length:Int)-1,idx:=(k.fired:Int)},true,0)/\SI ol (mF x u) all log)\/
  (∃s' o',gT ol (lastOf all) k.events (k.fired+1)=some (s',o')/\k.fired+1<k.events.size/\cZ ol x (u:Int)=(ay x u {k with fired:=k.fired+1,now:=s',out:=o'},dR,false,0)/\SI ol (ay x u {k with fired:=k.fired+1,now:=s',out:=o'}) all log)\/
  (∃s' o',gT ol (lastOf all) k.events (k.fired+1)=some (s',o')/\k.fired+1=k.events.size/\cZ ol x (u:Int)=(j1 (mF x u) s' o',{dR with ia:=(all.length:Int),idx:=(k.events.size:Int),text:=o'},true,0)/\SI ol (j1 (mF x u) s' o') (all++[s']) (log++o'))):=by
 have hI:=h.tk u k hu;have hq:=lF (hI.rq (by rw[hk];decide)) hk;have hsz:1<=k.events.size:=hq.1
 have hlt:k.fired<k.events.size:=by
  rcases Nat.eq_zero_or_pos k.fired with e|e
  ·omega
  exact(hI.wk e).2.2.2.1
 have hg:=h.LY
 obtain⟨s,o,hfi,hT⟩:∃s o,gT ol (lastOf all) k.events k.fired=some (s,o)/\oO x k={k with now:=s,out:=o}:=by
  rcases Nat.eq_zero_or_pos k.fired with e|e
  ·refine⟨lastOf all,⟨#[]⟩,by rw[e];rfl,?_⟩
   unfold oO;rw[if_pos e,h.dF,<-hI.LW e]
  refine⟨k.now,k.out,(hI.wk e).2.2.2.2.2,?_⟩;unfold oO;rw[if_neg (by omega)]
 have hnV:Ch.t_ x k=false:=by
  unfold Ch.t_;rw[h.made]
  rcases Nat.eq_zero_or_pos k.fired with e|e
  ·rcases hv with c|c|c
   ·omega
   ·rw[decide_eq_false (show¬ 0<=k.at_ by omega)];simp
   rw[decide_eq_false (show¬k.at_≠(all.length:Int)-1 by omega)];simp
  rw[decide_eq_false (show¬k.fired=0 by omega)];simp
 have hgs:=zu hR hg _ _ hfi
 have hM:eE ol x u k=rZ ol x u {k with now:=s,out:=o}:=by
  unfold eE;rw[if_neg (by rw[hk];decide)];unfold r9;rw[hnV,if_neg (by simp),hT]
 refine⟨s,o,hfi,hlt,?_⟩
 have hF:eD ol {k with now:=s,out:=o}=if(aQ ol s (af k.events k.fired)).2.2 !=0 then({k with now:=s,out:=o},(aQ ol s (af k.events k.fired)).2.2)else({k with fired:=k.fired+1,now:=(aQ ol s (af k.events k.fired)).1,out:=o++(aQ ol s (af k.events k.fired)).2.1},0):=by
  unfold eD;rw[if_neg (by show¬k.events.size<=k.fired;omega)]
 have hN:gT ol (lastOf all) k.events (k.fired+1)=if(aQ ol s (af k.events k.fired)).2.2==0 then some ((aQ ol s (af k.events k.fired)).1,o++(aQ ol s (af k.events k.fired)).2.1)else none:=by
  simp only[gT,hfi]
 by_cases q:(aQ ol s (af k.events k.fired)).2.2=0
 ·rw[if_neg (by simp[q])]at hF
  rw[if_pos (by simp[q])]at hN;have hgn:=mX hR hgs q;generalize (aQ ol s (af k.events k.fired)).1=s' at*;generalize o++(aQ ol s (af k.events k.fired)).2.1=o' at*
  right
  by_cases c:k.fired+1<k.events.size
  ·left
   refine⟨s',o',hN,c,?_,?_⟩
   ·have hE:rZ ol x u {k with now:=s,out:=o}=(ay x u {k with fired:=k.fired+1,now:=s',out:=o'},dR,false):=by
     unfold rZ;rw[hF];rw[if_neg (by simp),if_pos c]
    rw[xD hu (.inl hk) hd ht,hM,hE];rfl
   refine h.set hu (λm=>by rw[uP (by rw[hk];decide),uP (by show k.kind≠3;rw[hk];decide)]) ?_ rfl (λ_=>rfl);refine⟨λe=>absurd (show k.kind=0 from e) (by rw[hk];decide),hI.rq,hI.dr,hI.st,hI.st0,hI.pin,λe=>absurd (show k.fired+1=0 from e) (by omega),λ_=>⟨hk,hd,ht,c,?_,hN⟩⟩
   rcases Nat.eq_zero_or_pos k.fired with e|e
   ·rcases hv with g|g|g
    ·omega
    ·exact .inl g
    exact .inr g
   exact(hI.wk e).2.2.2.2.1
  right
  have c':k.fired+1=k.events.size:=by omega
  obtain⟨hD,hf⟩:=h.done hu hd ht;refine⟨s',o',hN,c',?_,hD.pub hf hgn _⟩
  have hE:rZ ol x u {k with now:=s,out:=o}=(j1 (ay x u {k with fired:=k.fired+1,now:=s',out:=o'}) s' o',{dR with ia:=(x.made:Int),idx:=((k.fired+1:Nat):Int),text:=o'},true):=by
   unfold rZ;rw[hF];rw[if_neg (by simp),if_neg c]
  rw[xD hu (.inl hk) hd ht,hM,hE];simp only[if_true]
  have e1:ay {j1 (ay x u {k with fired:=k.fired+1,now:=s',out:=o'}) s' o' with turn:=(j1 (ay x u {k with fired:=k.fired+1,now:=s',out:=o'}) s' o').turn+1} u fB=j1 (mF x u) s' o':=by
   simp[j1,ay,mF,List.set_set]
  rw[e1,h.made,<-c']
 rw[if_pos (by simpa using q)]at hF;rw[if_neg (by simpa using q)]at hN
 left
 have h9:(aQ ol s (af k.events k.fired)).2.2=9:=by
  rcases qA ol s (af k.events k.fired)with e|e
  ·exact absurd e q
  exact e
 refine⟨hN,q,?_,(h.done hu hd ht).1⟩
 have hE:rZ ol x u {k with now:=s,out:=o}=(ay x u {k with now:=s,out:=o},{ib x 9 with idx:=(k.fired:Int)},true):=by
  unfold rZ;rw[hF,h9];rw[if_pos (by simp)]
 rw[xD hu (.inl hk) hd ht,hM,hE];simp only[if_true]
 have e1:ay {ay x u {k with now:=s,out:=o}with turn:=(ay x u {k with now:=s,out:=o}).turn+1} u fB=mF x u:=by
  simp[ay,mF,List.set_set]
 rw[e1];unfold ib;rw[h.made]
end
theorem US{r:Rq}(h:mT r=true)(hk:r.kind=3): -1<=r.at_:=by
 unfold mT at h;rw[if_neg (by rw[hk];decide),if_neg (by rw[hk];decide),if_pos hk]at h;simp only[Bool.and_eq_true,decide_eq_true_eq]at h;exact h.2
section
variable {t:ByteArray} {ol:Ol} {x:Sv} {all:List Sd} {log:ByteArray} {u:Nat} {k:Tk}
theorem SI.CU(h:SI ol x all log)(hu:x.tasks[u]? =some k)(hk:k.kind=3\/k.kind=4):k.drawn=false:=by
 cases q:k.drawn with
 |false=>rfl
 |true=>?_
 have:=((h.tk u k hu).dr q).1
 rcases hk with e|e<;>rw[e]at this<;>simp at this
theorem SI.Yy(h:SI ol x all log)(hu:x.tasks[u]? =some k)(hk:k.kind≠1):k.fired=0:=by
 rcases Nat.eq_zero_or_pos k.fired with e|e
 ·exact e
 exact absurd ((h.tk u k hu).wk e).1 hk
theorem SI.ag8(h:SI ol x all log){k':Tk}(hu:x.tasks[u]? =some k)(hI:TkI ol all x.turn x.bA k')(hd:k.drawn=false)(hd':k'.drawn=false):SI ol {x with kept:=cj all (x.tasks.set u k'),tasks:=x.tasks.set u k'} all log:=by
 refine⟨h.made,h.pos,rfl,h.good,h.joined,h.tail,by simpa using h.len,?_,?_,?_,h.le⟩
 ·intro i a ha
  rcases fK ha with⟨_,rfl⟩|⟨_,ha⟩
  ·exact hI
  exact h.tk i a ha
 ·intro i j ti tj hi hj di dj e
  rcases fK hi with⟨rfl,rfl⟩|⟨ni,hi'⟩
  ·rw[hd']at di;cases di
  rcases fK hj with⟨rfl,rfl⟩|⟨nj,hj'⟩
  ·rw[hd']at dj;cases dj
  exact h.uniq _ _ _ _ hi' hj' di dj e
 intro m h1 h2;obtain⟨i,a,hi,di,e⟩:=h.cov m h1 h2
 have hiu:i≠u:=by
  intro e2;subst e2;rw[hu]at hi;simp at hi;subst hi;rw[hd]at di;cases di
 exact⟨i,a,by simp only;rw[List.getElem?_set_ne (λx=>hiu x.symm)];exact hi,di,e⟩
theorem SI.ab7(h:SI ol x all log)(hu:x.tasks[u]? =some k)(hk:k.kind=3)(hs:k.steps=0):
 ((all.length:Int)-1<k.at_/\cZ ol x (u:Int)=(ay x u fB,{dR with err:=14,ia:=(all.length:Int)-1},true,0)/\SI ol (ay x u fB) all log)\/
 (0<=k.at_/\k.at_<=(all.length:Int)-5/\cZ ol x (u:Int)=(ay x u fB,{dR with err:=15,ia:=(all.length:Int)-1},true,0)/\SI ol (ay x u fB) all log/\dA all.length x.tasks k.at_.toNat=false)\/
 (∃n:Nat,n<all.length/\(0<=k.at_->(n:Int)=k.at_)/\(k.at_<0->(n:Int)=(all.length:Int)-1)/\
  cZ ol x (u:Int)=({x with kept:=cj all (x.tasks.set u {k with steps:=1,pinned:=(n:Int)}),tasks:=x.tasks.set u {k with steps:=1,pinned:=(n:Int)}},dR,false,0)/\
  SI ol {x with kept:=cj all (x.tasks.set u {k with steps:=1,pinned:=(n:Int)}),tasks:=x.tasks.set u {k with steps:=1,pinned:=(n:Int)}} all log/\dA all.length x.tasks n=true):=by
 have hI:=h.tk u k hu;have hat:=US (hI.rq (by rw[hk];decide)) hk;have hat': -1<=k.at_:=hat;have hpos:=h.pos;have hnd:=h.CU hu (.inl hk);have hend:=h.end_ hu (vQ hs) hnd
 have hre:mD ol x u k=mC (ay x u (bQ k)) u (bQ k):=by unfold mD;rw[if_pos hs]
 have yq:mC (ay x u (bQ k)) u (bQ k)=if((x.made:Int)-1<if k.at_<0 then(x.made:Int)-1 else k.at_)then(ay x u (bQ k),{dR with err:=14,ia:=(x.made:Int)-1},true)
  else if(qT x.kept (if k.at_<0 then(x.made:Int)-1 else k.at_)).2 then({ay x u (bQ k)with kept:=(qT x.kept (if k.at_<0 then(x.made:Int)-1 else k.at_)).1,tasks:=(x.tasks.set u (bQ k)).set u {bQ k with pinned:=if k.at_<0 then(x.made:Int)-1 else k.at_}},dR,false)
  else(ay x u (bQ k),{dR with err:=15,ia:=(x.made:Int)-1},true):=rfl
 have hst:cZ ol x (u:Int)=(if(mC (ay x u (bQ k)) u (bQ k)).2.2 then ay (mC (ay x u (bQ k)) u (bQ k)).1 u fB else(mC (ay x u (bQ k)) u (bQ k)).1,(mC (ay x u (bQ k)) u (bQ k)).2.1,(mC (ay x u (bQ k)) u (bQ k)).2.2,0):=by
  rw[nY hu (by rw[hk];decide),CT hk,hre]
 rw[yq,h.made]at hst;have e2:ay (ay x u (bQ k)) u fB=ay x u fB:=kL x u _ _
 by_cases q1:(all.length:Int)-1<if k.at_<0 then(all.length:Int)-1 else k.at_
 ·left
  have q2:(all.length:Int)-1<k.at_:=by split at q1<;>omega
  refine⟨q2,?_,hend⟩;rw[if_pos q1]at hst;simp only[if_true,e2]at hst;exact hst
 right
 rw[if_neg q1]at hst
 obtain⟨n,hn⟩:∃n:Nat,(if k.at_<0 then(all.length:Int)-1 else k.at_)=(n:Int):=⟨(if k.at_<0 then(all.length:Int)-1 else k.at_).toNat,by split<;>omega⟩
 rw[hn]at hst q1
 have hnl:n<all.length:=by omega
 cases hkp:dA all.length x.tasks n with
 |true=>
  right
  have aa2:=PF (t':={k with steps:=1,pinned:=(n:Int)}) hu hnl hkp (vQ hs) (λm=>by
   unfold ki;simp only[hk,decide_true,Bool.true_and,Nat.le_refl];rw[decide_eq_decide]
   constructor<;>intro e<;>omega)
  rw[h.kept,aa2]at hst;refine⟨n,hnl,λe=>by rw[if_neg (by omega)]at hn;exact hn.symm,λe=>by rw[if_pos e]at hn;exact hn.symm,?_,h.ag8 hu ?_ hnd hnd,hkp⟩
  ·rw[hst]
   simp only[if_true,Bool.false_eq_true,if_false]
   have e3:(x.tasks.set u (bQ k)).set u {bQ k with pinned:=(n:Int)}=x.tasks.set u {k with steps:=1,pinned:=(n:Int)}:=by
    rw[List.set_set];unfold bQ;rw[hs]
   rw[e3];rfl
  refine⟨λe=>absurd (show k.kind=0 from e) (by rw[hk];decide),hI.rq,λd=>absurd (show k.drawn=true from d) (by rw[hnd];decide),by show 1<=2;omega,λe=>absurd (show k.kind=3 from hk) e,λ_ _=>⟨by show 0<=(n:Int);omega,by show(n:Int)<_;omega,λe=>?_⟩,hI.LW,λe=>absurd (show 0<k.fired from e) (by rw[h.Yy hu (by rw[hk];decide)];decide)⟩;show(n:Int)=k.at_;rw[if_neg (by have:0<=k.at_:=e;omega)]at hn;exact hn.symm
 |false=>?_
 left
 have hno:¬all.length<=n+4:=by
  intro e;unfold dA at hkp;rw[decide_eq_true e,Bool.or_true]at hkp
  cases hkp
 have hk0:0<=k.at_:=by
  rcases Int.lt_or_le k.at_ 0 with e|e
  ·rw[if_pos e]at hn;omega
  exact e
 rw[if_neg (by omega)]at hn
 have hmiss:qT x.kept (n:Int)=(x.kept,false):=FI (λv hv e=>by
  rw[h.kept]at hv;obtain⟨m,_,h2,rfl⟩:=vN.1 hv
  have:m=n:=by have e':((m:Nat):Int)=(n:Int):=e;omega
  subst this
  rw[h2]at hkp;cases hkp)
 rw[hmiss]at hst;refine⟨hk0,by omega,?_,hend,by rw[hn];exact hkp⟩;simp only[Bool.false_eq_true,if_false,if_true,e2]at hst;exact hst
theorem SI.ab8(h:SI ol x all log)(hu:x.tasks[u]? =some k)(hk:k.kind=3)(hs:k.steps=1):cZ ol x (u:Int)=(ay x u {k with steps:=2},dR,false,0)/\SI ol (ay x u {k with steps:=2}) all log:=by
 have hI:=h.tk u k hu;have hnd:=h.CU hu (.inl hk)
 have he:bQ k={k with steps:=2}:=by unfold bQ;rw[hs]
 refine⟨?_,h.set hu (λm=>by unfold ki;simp only[hs];rfl) ?_ rfl (λ_=>rfl)⟩
 ·have hre:mD ol x u k=(ay x u {k with steps:=2},dR,false):=by
   unfold mD;rw[if_neg (by omega),if_pos hs,he]
  rw[nY hu (by rw[hk];decide),CT hk,hre];rfl
 exact⟨λe=>absurd (show k.kind=0 from e) (by rw[hk];decide),hI.rq,hI.dr,by show 2<=2;omega,λe=>absurd (show k.kind=3 from hk) e,λ_ _=>hI.pin hk (by omega),hI.LW,λe=>absurd (show 0<k.fired from e) (by rw[h.Yy hu (by rw[hk];decide)];decide)⟩
theorem SI.ab9(h:SI ol x all log)(hu:x.tasks[u]? =some k)(hk:k.kind=3)(hs:k.steps=2):
 ∃n:Nat,k.pinned=(n:Int)/\n<all.length/\cZ ol x (u:Int)=({x with kept:=cj all (x.tasks.set u fB),tasks:=x.tasks.set u fB},{dR with ia:=(n:Int),st:=aH ol.ag (all.getD n vJ)},true,0)/\
  SI ol {x with kept:=cj all (x.tasks.set u fB),tasks:=x.tasks.set u fB} all log:=by
 have hI:=h.tk u k hu;have hnd:=h.CU hu (.inl hk);obtain⟨p1,p2,_⟩:=hI.pin hk (by omega)
 obtain⟨n,hn⟩:∃n:Nat,k.pinned=(n:Int):=⟨k.pinned.toNat,by omega⟩
 have hnl:n<all.length:=by omega
 obtain⟨r1,r2⟩:=PG (t':=fB) hu hnl (λm=>by
  unfold ki;simp only[hk,hs,hn,decide_true,Bool.true_and,show(1:Nat)<=2 from by omega];rw[decide_eq_decide]
  constructor<;>intro e<;>omega) uh
 refine⟨n,hn,hnl,?_,h.ag8 hu (Q0 _ _ _ _) hnd rfl⟩
 have hre:mD ol x u k=({ay x u (bQ k)with kept:=cj all (x.tasks.set u fB)},{dR with ia:=(n:Int),st:=aH ol.ag (all.getD n vJ)},true):=by
  unfold mD;rw[if_neg (by omega),if_neg (by omega),hn,h.made,h.kept,r1,r2]
 rw[nY hu (by rw[hk];decide),CT hk,hre];simp only[if_true];simp[ay,List.set_set]
end
end Ch
end Go.Proofs.YtnlbchmfcebeeaaGreat
