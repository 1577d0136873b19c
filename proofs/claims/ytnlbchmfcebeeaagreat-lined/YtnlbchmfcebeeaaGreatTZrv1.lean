import Derived.Test.YtnlbchmfcebeeaaGreatTZr
set_option maxHeartbeats 12800000
set_option maxRecDepth 100000
namespace Go.Proofs.YtnlbchmfcebeeaaGreat
open Go.Proofs.Tryz Ch
open Go.RowKit
section
variable (w:World) (B mb ob po:Nat)
theorem Mm.turn{w w':World}{B mb ob po:Nat}{m:Ma}(h:Mm w B mb ob po m){s:Sd}(hk:Kp (λk=>k=mb) w w')(hs:∀qv ov,iq w mb ob po m.s qv ov->iq w' mb ob po s qv ov):
 Mm w' B mb ob po {m with s:=s}/\Kp (km B mb w) w w':=by
 obtain⟨qv,ov,hm,oq,oo,ap⟩:=h;have n1:=oq.ne hm (by decide);have n2:=oo.ne hm (by decide);exact⟨⟨qv,ov,hs qv ov hm,oq.keep hk (λi hi x=>by subst x;exact n1 hi),oo.keep hk (λi hi x=>by subst x;exact n2 hi),ap⟩,(Kp.refl _ _).trans' hk (λi _ x=>.inl x)⟩
end
section
variable {P:Program} {o:Oper} {a:Act} {w:World} {K:Act->World->Prop} {Q:Exit->Act->World->Prop}
theorem BB(d:Option Tmp)(hd:o.dst=d)(v:Value)(w':World)(hrun:(execOp a.eval o).run P w= .ok (.value v) w')(h:K (a.put d v) w'):o.wp P a w K Q:=by
 subst hd;unfold Oper.wp;rw[hrun,Oper.upon_value];exact h
theorem GX{S:World->Prop}{ops:Array Oper}(i j:Nat){oi oj:Oper}{fuel:Nat}{listed:Array Bool}(hr:Region.ready .any ops listed=[i,j])(hi:ops[i]? =some oi)(hj:ops[j]? =some oj)(hgi:oi.guard=none)(hgj:oj.guard=none)
 (h1:oi.wp P a w (λa' w'=>S w'/\wpAnyH P .any ops (NoPanic Q) S fuel (listed.setIfInBounds i true) a' w') (NoPanic Q))
 (h2:oj.wp P a w (λa' w'=>S w'/\wpAnyH P .any ops (NoPanic Q) S fuel (listed.setIfInBounds j true) a' w') (NoPanic Q)):wpAnyH P .any ops (NoPanic Q) S (fuel+1) listed a w:=
 wpAnyH_all hr (by simp) (λk hk=>by
  simp only[List.mem_cons,List.not_mem_nil,or_false]at hk
  rcases hk with rfl|rfl
  ·have hw:Region.wanted oi (yielded ops a.tmps)=true:=by simp[Region.wanted,hgi]
   simp only[wpOp,hi,hw,if_true];exact .inl h1
  have hw:Region.wanted oj (yielded ops a.tmps)=true:=by simp[Region.wanted,hgj]
  simp only[wpOp,hj,hw,if_true]
  exact .inl h2)
theorem BC{S:World->Prop}{ops:Array Oper}(i j:Nat){oi oj:Oper}{fuel:Nat}{listed:Array Bool}(di dj:Tmp)(v u:Value)(w':World)(hdd:di≠dj)
 (hr:Region.ready .any ops listed=[i,j]) (hr1:Region.ready .any ops (listed.setIfInBounds i true)=[j]) (hr2:Region.ready .any ops (listed.setIfInBounds j true)=[i])
 (hi:ops[i]? =some oi) (hj:ops[j]? =some oj) (hgi:oi.guard=none) (hgj:oj.guard=none) (hdi:oi.dst=some di) (hdj:oj.dst=some dj)
 (r1:(execOp a.eval oi).run P w= .ok (.value v) w) (r2:(execOp (a.put (some di) v).eval oj).run P w= .ok (.value u) w') (r3:(execOp a.eval oj).run P w= .ok (.value u) w') (r4:(execOp (a.put (some dj) u).eval oi).run P w'= .ok (.value v) w')
 (hS:S w) (hS':S w') (h:wpAnyH P .any ops (NoPanic Q) S fuel ((listed.setIfInBounds i true).setIfInBounds j true) ((a.put (some di) v).put (some dj) u) w'):wpAnyH P .any ops (NoPanic Q) S (fuel+1+1) listed a w:=by
 refine GX i j hr hi hj hgi hgj ?_ ?_
 ·exact BB (some di) hdi v w r1 ⟨hS,ot j hr1 hj hgj (BB (some dj) hdj u w' r2 ⟨hS',h⟩)⟩
 refine BB (some dj) hdj u w' r3 ⟨hS',ot i hr2 hi hgi (BB (some di) hdi v w' r4 ⟨hS',?_⟩)⟩
 have e1:(listed.setIfInBounds j true).setIfInBounds i true=(listed.setIfInBounds i true).setIfInBounds j true:=by
  apply Array.ext_getElem?;intro k;simp only[Array.getElem?_setIfInBounds,Array.size_setIfInBounds]
  by_cases e:i=k<;>by_cases e':j=k<;>simp[e,e']<;>omega
 rw[e1,<-Act.put_comm a (x:=some di) (y:=some dj) v u (λd hd hd'=>hdd ((Option.some.inj hd).trans (Option.some.inj hd').symm))];exact h
end
theorem dC{P:Program}(w:World)(base:Nat)(t ty e:TypeId)(i:TypeInfo)(z:Value)(size bytes:Nat)(ht:P.underlying t=some (.slice e))(hi:P.info? e=some i)(hz:i.zero=some z)
 (hsize:i.size=size) (hby:i.bytes=bytes) (hzs:z.cells.size=size) (hsz:0<size)
 (v:Value) (n:Nat) (xs:List Value) (hown:w.ownsRow base e size v n xs)
 (a:Addr) (m c:Nat) (news:List Value) (hl:news.length=m*size) (hnews:∀j u,news[j]? =some u->w.cell? (a.add j)=some u) (h1:∀u∈news,u.oneCell'=true) (hm:0<m)
 (h63:n+m<=maxLen) (hbytes:(n+m)*bytes<=140737488355328) (hbase:base<=w.heap.size):
 ∃g cap w',(Builtin.append_ #[t,t] ty #[v,.slice (some a) m c]).run P w= .ok (.slice (some ⟨g,0,none⟩) (n+m) cap) w'/\w'.ownsRow base e size (.slice (some ⟨g,0,none⟩) (n+m) cap) (n+m) (xs++news)/\w.grownBy w' v.ownBlock/\
  (v.ownBlock=some g\/w.heap.size<=g):=by
 obtain⟨v',w',hr,ho,hg,_⟩:=run_append_own (P:=P) w base t ty e i z size bytes ht hi hz hsize hby hzs hsz v n xs hown a m c news hl hnews h1 h63 hbytes hbase;obtain⟨g,cap,rfl⟩:=gD ho (by omega);refine⟨g,cap,w',hr,ho,hg,?_⟩
 rcases hown.2 with⟨rfl,rfl⟩|⟨g0,cap0,cur,rfl,hbg,hg0,hnc,hcm,hcs,htake⟩
 ·have hx:xs=[]:=List.eq_nil_of_length_eq_zero (by simpa using hown.1)
  subst hx;obtain⟨v2,w2,hr2,ho2,_,_⟩:=run_append_own (P:=P) w w.heap.size t ty e i z size bytes ht hi hz hsize hby hzs hsz _ 0 [] (World.ownsRow_nil w w.heap.size e size) a m c news hl hnews h1 h63 hbytes (Nat.le_refl _);rw[hr]at hr2;simp only[Result.ok.injEq]at hr2;obtain⟨rfl,rfl⟩:=hr2;exact .inr (ho2.lt g rfl).1
 by_cases hroom:n+m<=cap0
 ·subst hsize
  have hr2:=run_append_room (P:=P) w t ty e i ht hi g0 n cap0 cur hg0 a m c news hl hnews h1 hroom (by rw[hl,hcs,<-Nat.add_mul];exact Nat.mul_le_mul_right _ hroom);rw[hr]at hr2;simp only[Result.ok.injEq,Value.slice.injEq,Option.some.injEq,Addr.mk.injEq,and_true,true_and]at hr2
  left
  simp[Value.ownBlock,hr2.1.1]
 obtain⟨v2,w2,hr2,ho2,_⟩:=run_append_arg_grows (P:=P) w t ty e i z size bytes ht hi hz hsize hby hzs hsz ⟨g0,0,none⟩ n cap0 xs hown.1 (hown.cells (g:=g0) rfl) a m c news hl hnews (by omega) h63 hbytes;rw[hr]at hr2;simp only[Result.ok.injEq]at hr2;obtain⟨rfl,rfl⟩:=hr2;exact .inr (ho2.lt g rfl).1
namespace Ch
theorem gE.other{t:ByteArray}{k:Nat}{up:Int}{L res:List RN}(h:gE t k up L res)(hk:k<t.size)(h1:isOpen (af t k)=false)(h2:(af t k==41||af t k==93)=false)(h3:(af t k==58)=false)(h4:(af t k==94||af t k==36)=false):
 gE t (k+1) up L res:=by
 rcases h.inv with⟨h,rfl⟩|⟨_,_,_,_,hst,hn⟩
 ·omega
 unfold lR at hst;simp only[h1,h2,h3,h4,Bool.false_eq_true,if_false]at hst;simp only[Option.some.injEq,Prod.mk.injEq]at hst;obtain⟨rfl,rfl,rfl⟩:=hst;exact hn
theorem gE.end_{t:ByteArray}{k:Nat}{up:Int}{L res:List RN}(h:gE t k up L res)(hk:t.size<=k):res=L:=by
 rcases h.inv with⟨_,rfl⟩|⟨h,_⟩
 ·rfl
 omega
theorem Ak{a b:ByteArray}(h:dW a=dW b):a=b:=by
 unfold dW at h
 have hh:a.data.toList=b.data.toList:=by
  apply List.ext_getElem?;intro k;have:=congrArg (λl=>l[k]?) h;simp only[List.getElem?_map]at this
  cases h1:a.data.toList[k]? <;>cases h2:b.data.toList[k]? <;>rw[h1,h2]at this<;>simp at this⊢
  exact UInt8.toNat_inj.1 (by omega)
 have:a.data=b.data:=Array.toList_inj.1 hh
 cases a;cases b;simp at this;rw[this]
end Ch
section
variable {w w':World} {xb cb g n:Nat} {pv:Value} {m:Ma}
theorem fy.NH(h:fy w xb cb g n pv m)(t:ByteArray):fy (w.setCell ⟨xb,3,none⟩ (.string t)) xb cb g n pv {m with s:={m.s with tm:=t}}:=by unfold fy at*;rw[ah _ h];rfl
end
namespace Ch
theorem ext_size(t:ByteArray)(a b:Nat):(t.extract a b).size<=t.size:=by simp;omega
theorem gE.bd{t:ByteArray}(ht:t.size<=240){i:Nat}{up:Int}{L res:List RN}(h:gE t i up L res):TB L->TB res:=by
 refine gE.ind (M:=λ_ _ L res=>TB L->TB res) (λ_=>id) ?_ h;intro i j up up' L L' res hi hst ih hL;refine ih ?_;unfold lR at hst
 split at hst
 ·split at hst
  ·simp only[Option.some.injEq,Prod.mk.injEq]at hst
   obtain⟨_,_,rfl⟩:=hst;intro n hn rt hr
   rcases List.mem_append.1 hn with hn|hn
   ·exact hL.mark up n hn rt hr
   simp at hn;subst hn;simp at hr
  simp at hst
 split at hst
 ·split at hst
  ·simp only[Option.some.injEq,Prod.mk.injEq]at hst
   obtain⟨_,_,rfl⟩:=hst;exact hL
  simp at hst
 split at hst
 ·split at hst
  ·simp only[Option.some.injEq,Prod.mk.injEq]at hst
   obtain⟨_,_,rfl⟩:=hst;refine hL.mod (λn rt hr=>?_);simp only[List.mem_append,List.mem_cons,List.not_mem_nil,or_false]at hr
   rcases hr with hr|rfl
   ·exact .inl hr
   right;have:=ext_size t (i+1) (fZ t (i+1)+1);simp only;omega
  simp at hst
 split at hst
 ·split at hst
  ·simp only[Option.some.injEq,Prod.mk.injEq]at hst
   obtain⟨_,_,rfl⟩:=hst;refine hL.mod (λn rt hr=>.inl ?_)
   split at hr<;>exact hr
  simp at hst
 simp only[Option.some.injEq,Prod.mk.injEq]at hst;obtain⟨_,_,rfl⟩:=hst;exact hL
end Ch
section
variable {w w':World} {B B2 xb cb g:Nat} {pv v:Value} {l:List NV} {ol:Ol} {m:Ma}
theorem lW.pg(h:lW w B B2 xb cb g pv v l ol m):pv.ownBlock≠some g:=by
 obtain⟨on,ho,_⟩:=h.on;exact eu.ne h.ps ho (by decide)
end
section
variable {w w':World} {B B2 xb cb g:Nat} {pv v:Value} {l:List NV} {ol:Ol} {m:Ma}
theorem lW.turn(h:lW w B B2 xb cb g pv v l ol m){i:Nat}(hi:i<l.length)(hle:l.length<=16)(b:Bool):lW (w.setCell ⟨g,i,none⟩ (.bool b)) B B2 xb cb g pv v l ol (cK m i b)/\Kp (nS xb g pv) w (w.setCell ⟨g,i,none⟩ (.bool b)):=by
 obtain⟨on,hon,hso⟩:=h.on;have K1:Kp (λk=>k=g) w (w.setCell ⟨g,i,none⟩ (.bool b)):=(Kp.refl _ _).setCell (by intro _;rfl) _;have K2:=K1.mono (S':=nS xb g pv) (λ_ _ e=>.inr (.inl e));exact⟨⟨h.nb.keep K1 h.xg,⟨on.set i b,hon.set i b,hso.put hi hle b⟩,eu.keep h.ps K1 (λj hj e=>h.pg (by rw[hj,e])),h.chart K2⟩,K2⟩
end
namespace Ch
theorem Al(t:ByteArray):strOfNums (dW t)=t:=Ak (iO (Bp t))
theorem No.tk{L:List RN}{ol:Ol}(mQ:L.map RN.st=ol.ag)(hO:Ah ol)(hB:ZQ ol){a:As}{s:Sd}(h:No ol a s):∃on,TkF L ol a s on:=by
 obtain⟨on,h1,h2⟩:=Bm mQ hO (λk _=>hB k) h.inv.conf.lt h.inv.la
 have hm:min ol.ag.length 16=ol.ag.length:=by have:=hO.le;omega
 obtain rfl:=h.out;refine⟨on,h1,h2,?_,rfl,rfl,rfl,rfl,h.tl⟩;show dW (dh ol.ag s)=_;unfold dh;rw[hm];exact iO (Ep hB h.inv)
theorem wV.next{t:ByteArray}{k:Nat}(h:wV t k)(hk:k+1<t.size)(hd:(af t (k+1)!=48)=true):wV t (k+2):=by
 obtain⟨f,h1,h2⟩:=h
 match f,h1,h2 with
 |0,_,h2=>omega
 |f+1,h1,h2=>
  have hd':(af t (k+1)==48)=false:=by simpa using hd
  simp only[jx,if_pos hk,hd',Bool.false_eq_true,if_false]at h1;exact⟨f,h1,by omega⟩
end Ch
end Go.Proofs.YtnlbchmfcebeeaaGreat
