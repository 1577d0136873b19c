import Derived.Test.YtnlbchmfcebeeaaGreatTA1
import Derived.Deep.RegionLaw
set_option maxHeartbeats 12800000
set_option maxRecDepth 100000
namespace Go.Proofs.YtnlbchmfcebeeaaGreat
open Go.Proofs.Tryz Ch
open Go.RowKit
theorem gD{w:World}{base:Nat}{e:TypeId}{size:Nat}{v:Value}{n:Nat}{xs:List Value}(h:w.ownsRow base e size v n xs)(hn:0<n):
 ∃g cap,v= .slice (some ⟨g,0,none⟩) n cap:=by
 rcases h.2 with⟨_,h0⟩|⟨g,cap,_,h,_⟩
 ·omega
 exact⟨g,cap,h⟩
theorem gA{P:Program}{ops:Array Oper}{o:Oper}{a:Act}{w:World}{K:Act->World->Prop}{Q:Exit->Act->World->Prop}{E:Prop}
 (hg:o.guard=none) (s x:Operand) (t:TypeId) (hop:o.op=Op.call {callee:=Callee.builtin Builtin.append,args:=#[s,x],argTypes:=#[t,t]})
 (base:Nat) (e:TypeId) (i:TypeInfo) (z:Value) (size bytes:Nat) (h1:P.underlying t=some (.slice e)) (h2:P.info? e=some i) (h3:i.zero=some z) (h4:i.size=size) (h5:i.bytes=bytes) (h6:z.cells.size=size) (h7:0<size)
 (v:Value) (n:Nat) (xs:List Value) (hs:a.eval s=v) (hown:w.ownsRow base e size v n xs)
 (ad:Addr) (m c:Nat) (news:List Value) (hx:a.eval x= .slice (some ad) m c) (hn:news.length=m*size) (hc:∀j u,news[j]? =some u->w.cell? (ad.add j)=some u) (h1c:∀u∈news,u.oneCell'=true)
 (hm:0<m) (b1:n+m<=maxLen) (b2:(n+m)*bytes<=140737488355328) (hbase:base<=w.heap.size)
 (hK:∀g cap w',w'.ownsRow base e size (.slice (some ⟨g,0,none⟩) (n+m) cap) (n+m) (xs++news)->w.grownBy w' v.ownBlock->K (a.put o.dst (.slice (some ⟨g,0,none⟩) (n+m) cap)) w'):
 if Region.wanted o (yielded ops a.tmps)=true then Oper.wp P o a w K Q else E:=by
 have hw:Region.wanted o (yielded ops a.tmps)=true:=by simp[Region.wanted,hg]
 rw[if_pos hw];obtain⟨v',w',hrun,r1,r2,_⟩:=run_append_own (P:=P) w base t o.type e i z size bytes h1 h2 h3 h4 h5 h6 h7 v n xs hown ad m c news hn hc h1c b1 b2 hbase;obtain⟨g,cap,rfl⟩:=gD r1 (by omega);unfold Oper.wp;simp[execOp,hop,resolve,invoke,builtin,hs,hx,hrun,Result.andThen];exact hK g cap w' r1 r2
theorem br{w:World}{base:Nat}{e:TypeId}{size:Nat}{v:Value}{n:Nat}{xs:List Value}(h:w.ownsRow base e size v n xs){k:Nat}(hk:v.ownBlock=some k):
 ∃cur,w.heap[k]? =some (.cells cur e (0,0)):=by
 rcases h.2 with⟨rfl,_⟩|⟨g,cap,cur,rfl,_,hg,_⟩
 ·simp[Value.ownBlock]at hk
 simp[Value.ownBlock]at hk;subst hk;exact⟨cur,hg⟩
theorem own_ne{w:World}{base:Nat}{e:TypeId}{size:Nat}{v:Value}{n:Nat}{xs:List Value}(h:w.ownsRow base e size v n xs)
 {b:Nat} {c:Array Value} {T:TypeId} {f:Nat×Nat} (hb:w.heap[b]? =some (.cells c T f)) (hT:e≠T):v.ownBlock≠some b:=by
 intro hk;obtain⟨cur,hg⟩:=br h hk;rw[hg]at hb;simp at hb;exact hT hb.2.1
theorem cC{w:World}{base base':Nat}{e e':TypeId}{size size':Nat}{v v':Value}{n n':Nat}{xs xs':List Value}(h:w.ownsRow base e size v n xs)(h':w.ownsRow base' e' size' v' n' xs')
 (hT:e≠e'):∀k,v.ownBlock=some k->v'.ownBlock≠some k:=by
 intro k hk hk';obtain⟨cur,hg⟩:=br h' hk';exact own_ne h hg hT hk
theorem cO{w:World}{base base':Nat}{e:TypeId}{size:Nat}{v:Value}{n:Nat}{xs:List Value}(h:w.ownsRow base e size v n xs)(hb:base'<=base):w.ownsRow base' e size v n xs:=by
 refine⟨h.1,?_⟩
 rcases h.2 with h|⟨g,cap,cur,hv,hg,r⟩
 ·exact .inl h
 exact .inr ⟨g,cap,cur,hv,Nat.le_trans hb hg,r⟩
theorem jT(w:World)(x y:Value)(T:TypeId):∀j u,[x,y][j]? =some u->(w.alloc (.cells #[x,y] T)).cell? ((⟨w.heap.size,0,none⟩:Addr).add j)=some u:=by
 intro j u hj
 match j,hj with
 |0,hj=>simp at hj;subst hj;simp[Addr.add]
 |1,hj=>simp at hj;subst hj;simp[Addr.add]
def eF(l:List Us):List Value:=l.flatMap λa=>[.int .u8 a.name,.int .i64 a.pos]
theorem F9(l:List Us)(a:Us):eF (l++[a])=eF l++[.int .u8 a.name,.int .i64 a.pos]:=by simp[eF]
theorem Za:(prog.info? 242).map (λi=>(i.zero,i.size,i.bytes))=some (some (.agg #[.int .u8 0,.int .i64 0]),2,16):=by kernel_rfl
def Ch.jF(c:Int):Bool:=c==46||bR c||bx c
def Ch.kf(c:Int):Bool:=c==45||bx c
def Ch.cF(c:Int)(p:Nat)(us:List Us):List Us:=if bx c then us++[⟨c,p⟩]else us
section
variable (B b:Nat) (t:ByteArray) (p:Nat) (e f sv tv bv uv:Value) (w:World)
theorem iW(c:Int)(us:List Us)(h:cW w b t p e f sv tv bv uv)(ho:w.ownsRow B 242 2 uv us.length (eF us))(hB:B<=w.heap.size)(hl:us.length<=1000):
 Calls prog 269 #[.pointer (some ⟨b,0,none⟩),.int .u8 c] w λx w'=>x= .returned (.tuple #[])/\∃uv',cW w' b t p e f sv tv bv uv'/\
  w'.ownsRow B 242 2 uv' (cF c p us).length (eF (cF c p us))/\Kp (λk=>k=b\/uv.ownBlock=some k) w w':=by
 cases hc:bx c with
 |false=>
  have HF:=hid (show cF c p us=us by simp[cF,hc]);have E:=hid (iV c w);rw[hc]at E;clear hc
  go_enter func269,ntmps269
  go_wp2_with fail
  refine hm E ?_;rintro x w1 ⟨rfl,rfl⟩;go_wp2
  go_end0
  exact⟨rfl,uv,h,by rw[HF.out];exact ho,Kp.refl _ _⟩
 |true=>?_
 have HF:=hid (show cF c p us=us++[⟨c,p⟩]by simp[cF,hc]);have E:=hid (iV c w);rw[hc]at E;clear hc;obtain⟨i0,hi,hz0,hz1,hz2⟩:=info_parts Za;have c1:=h.pos;have c7:=h.c7
 have c7a:∀o,(w.alloc o).cell? ⟨b,7,none⟩=some uv:=λo=>(h.alloc o).c7
 have f7:=h.free 7;have hne:=hid (own_ne ho h (by decide));have H:=hid (ae h ho);clear h ho
 go_enter func269,ntmps269
 go_wp2_with fail
 refine hm E ?_;rintro x w1 ⟨rfl,rfl⟩;clear E;go_wp2
 go_region_law (refine gA rfl (.tmp 10) (.tmp 17) 141 rfl B 242 i0 (.agg #[.int .u8 0,.int .i64 0]) 2 16 underlying141 hi hz0 hz1 hz2 rfl (by decide) uv us.length (eF us) (by simp[Act.eval]) (by exact H.out.2.alloc _) ⟨w1.heap.size,0,none⟩ 1 1 [.int .u8 c,.int .i64 p] (by simp[Act.eval]) rfl (by exact jT _ _ _ _) (by intro u hu;simp at hu;rcases hu with rfl|rfl<;>rfl) (by decide) (by unfold maxLen;omega) (by omega) (by simp;omega) ?_;intro g cap w2 o2 g2;have R2:cW w2 b t p e f sv tv bv uv:=cW.grown (by exact H.out.1.alloc (.cells #[.int .u8 c,.int .i64 p] 242)) g2 hne.out;have K2:Kp (λk=>k=b\/uv.ownBlock=some k) w1 w2:=Kp.grown (by exact((Kp.refl _ _).alloc (.cells #[.int .u8 c,.int .i64 p] 242)).drew) g2 (λk hk _=>Or.inr hk);have x1:=R2.c7;have x2:=R2.free 7;have H2:=hid (ae R2 (ae o2 K2));clear R2 o2 K2 g2)
 all_goals
  obtain⟨R2,o2,K2⟩:=H2.out;have hn2:=own_ne o2 R2 (by decide)
  go_end0
  refine⟨rfl,_,R2.aiH _,?_,K2.setCell (by intro _;exact Or.inl rfl) _⟩;rw[HF.out,F9];have o3:=ownsRow_setCell_other o2 (a:=⟨b,7,none⟩) hn2 (.slice (some ⟨g,0,none⟩) (us.length+1) cap);simpa using o3
theorem oh(us:List Us)(h:cW w b t p e f sv tv bv uv)(ho:w.ownsRow B 242 2 uv us.length (eF us))(hB:B<=w.heap.size)(hl:us.length<=1000)(hp:p<=1000):
 Calls prog 249 #[.pointer (some ⟨b,0,none⟩)] w λx w'=>x= .returned (.bool (jF (af t p)))/\∃uv',cW w' b t (bI (jF (af t p)) p) e f sv tv bv uv'/\
  w'.ownsRow B 242 2 uv' (cF (af t p) p us).length (eF (cF (af t p) p us))/\Kp (λk=>k=b\/uv.ownBlock=some k) w w':=by
 have E1:=hid (aV b t p w h.text h.pos);generalize af t p=c at E1⊢
 cases q1:c==46 with
 |true=>
  rw[show jF c=true by simp[jF,q1]]
  go_enter func249,ntmps249
  go_wp2_with fail
  refine hm E1 ?_;rintro x w1 ⟨rfl,n1,rfl⟩;clear E1
  go_wp2_with fail
  refine(iW B b t p e f sv tv bv uv _ c us (h.drewN n1) (by exact ho) (by exact hB) hl).mono ?_;rintro x w2 ⟨rfl,uv',h2,o2,K2⟩;have K2:Kp (λk=>k=b\/uv.ownBlock=some k) w w2:=((Kp.refl _ _).drewN n1).trans K2;clear h ho
  go_wp2_with fail
  refine(gY b t p e f sv tv bv uv' w2 _ h2 hp).mono ?_;rintro x w3 ⟨rfl,h3,K3⟩;have o3:=K3.owns o2 (λk hk e=>by subst e;exact own_ne o2 h2 (by decide) hk);have K4:=K2.trans' K3 (λi _ e=>Or.inl e);clear h2 o2 K2 K3;go_wp2;go_ret;exact⟨rfl,uv',h3,o3,K4⟩
 |false=>?_
 cases q2:bR c with
 |true=>
  rw[show jF c=true by simp[jF,q1,q2]]
  go_enter func249,ntmps249
  go_wp2_with fail
  refine hm E1 ?_;rintro x w1 ⟨rfl,n1,rfl⟩;clear E1
  go_wp2_with fail
  refine(iW B b t p e f sv tv bv uv _ c us (h.drewN n1) (by exact ho) (by exact hB) hl).mono ?_;rintro x w2 ⟨rfl,uv',h2,o2,K2⟩;have K2:Kp (λk=>k=b\/uv.ownBlock=some k) w w2:=((Kp.refl _ _).drewN n1).trans K2;clear h ho
  go_wp2_with fail
  have E2:=iU c w2;rw[q2]at E2;refine E2.mono ?_;rintro x w9 ⟨rfl,rfl⟩;clear E2
  go_wp2_with fail
  refine(gY b t p e f sv tv bv uv' w9 _ h2 hp).mono ?_;rintro x w3 ⟨rfl,h3,K3⟩;have o3:=K3.owns o2 (λk hk e=>by subst e;exact own_ne o2 h2 (by decide) hk);have K4:=K2.trans' K3 (λi _ e=>Or.inl e);clear h2 o2 K2 K3;go_wp2;go_ret;exact⟨rfl,uv',h3,o3,K4⟩
 |false=>?_
 cases q3:bx c with
 |true=>
  rw[show jF c=true by simp[jF,q1,q2,q3]]
  go_enter func249,ntmps249
  go_wp2_with fail
  refine hm E1 ?_;rintro x w1 ⟨rfl,n1,rfl⟩;clear E1
  go_wp2_with fail
  refine(iW B b t p e f sv tv bv uv _ c us (h.drewN n1) (by exact ho) (by exact hB) hl).mono ?_;rintro x w2 ⟨rfl,uv',h2,o2,K2⟩;have K2:Kp (λk=>k=b\/uv.ownBlock=some k) w w2:=((Kp.refl _ _).drewN n1).trans K2;clear h ho
  go_wp2_with fail
  have E2:=iU c w2;rw[q2]at E2;refine E2.mono ?_;rintro x w9 ⟨rfl,rfl⟩;clear E2
  go_wp2_with fail
  have E3:=iV c w9;rw[q3]at E3;refine E3.mono ?_;rintro x w8 ⟨rfl,rfl⟩;clear E3
  go_wp2_with fail
  refine(gY b t p e f sv tv bv uv' w8 _ h2 hp).mono ?_;rintro x w3 ⟨rfl,h3,K3⟩;have o3:=K3.owns o2 (λk hk e=>by subst e;exact own_ne o2 h2 (by decide) hk);have K4:=K2.trans' K3 (λi _ e=>Or.inl e);clear h2 o2 K2 K3;go_wp2;go_ret;exact⟨rfl,uv',h3,o3,K4⟩
 |false=>?_
 rw[show jF c=false by simp[jF,q1,q2,q3]]
 go_enter func249,ntmps249
 go_wp2_with fail
 refine hm E1 ?_;rintro x w1 ⟨rfl,n1,rfl⟩;clear E1
 go_wp2_with fail
 refine(iW B b t p e f sv tv bv uv _ c us (h.drewN n1) (by exact ho) (by exact hB) hl).mono ?_;rintro x w2 ⟨rfl,uv',h2,o2,K2⟩;have K2:Kp (λk=>k=b\/uv.ownBlock=some k) w w2:=((Kp.refl _ _).drewN n1).trans K2;clear h ho
 go_wp2_with fail
 have E2:=iU c w2;rw[q2]at E2;refine E2.mono ?_;rintro x w9 ⟨rfl,rfl⟩;clear E2
 go_wp2_with fail
 have E3:=iV c w9;rw[q3]at E3;refine E3.mono ?_;rintro x w8 ⟨rfl,rfl⟩;clear E3
 go_wp2_with fail
 refine(gY b t p e f sv tv bv uv' w8 _ h2 hp).mono ?_;rintro x w3 ⟨rfl,h3,K3⟩;have o3:=K3.owns o2 (λk hk e=>by subst e;exact own_ne o2 h2 (by decide) hk);have K4:=K2.trans' K3 (λi _ e=>Or.inl e);clear h2 o2 K2 K3;go_wp2;go_ret;exact⟨rfl,uv',h3,o3,K4⟩
theorem MG(us:List Us)(h:cW w b t p e f sv tv bv uv)(ho:w.ownsRow B 242 2 uv us.length (eF us))(hB:B<=w.heap.size)(hl:us.length<=1000)(hp:p<=1000):
 Calls prog 252 #[.pointer (some ⟨b,0,none⟩)] w λx w'=>x= .returned (.bool (kf (af t p)))/\∃uv',cW w' b t (bI (kf (af t p)) p) e f sv tv bv uv'/\
  w'.ownsRow B 242 2 uv' (cF (af t p) p us).length (eF (cF (af t p) p us))/\Kp (λk=>k=b\/uv.ownBlock=some k) w w':=by
 have E1:=hid (aV b t p w h.text h.pos);generalize af t p=c at E1⊢
 cases q1:c==45 with
 |true=>
  rw[show kf c=true by simp[kf,q1]]
  go_enter func252,ntmps252
  go_wp2_with fail
  refine hm E1 ?_;rintro x w1 ⟨rfl,n1,rfl⟩;clear E1
  go_wp2_with fail
  refine(iW B b t p e f sv tv bv uv _ c us (h.drewN n1) (by exact ho) (by exact hB) hl).mono ?_;rintro x w2 ⟨rfl,uv',h2,o2,K2⟩;have K2:Kp (λk=>k=b\/uv.ownBlock=some k) w w2:=((Kp.refl _ _).drewN n1).trans K2;clear h ho
  go_wp2_with fail
  refine(gY b t p e f sv tv bv uv' w2 _ h2 hp).mono ?_;rintro x w3 ⟨rfl,h3,K3⟩;have o3:=K3.owns o2 (λk hk e=>by subst e;exact own_ne o2 h2 (by decide) hk);have K4:=K2.trans' K3 (λi _ e=>Or.inl e);clear h2 o2 K2 K3;go_wp2;go_ret;exact⟨rfl,uv',h3,o3,K4⟩
 |false=>?_
 cases q3:bx c with
 |true=>
  rw[show kf c=true by simp[kf,q1,q3]]
  go_enter func252,ntmps252
  go_wp2_with fail
  refine hm E1 ?_;rintro x w1 ⟨rfl,n1,rfl⟩;clear E1
  go_wp2_with fail
  refine(iW B b t p e f sv tv bv uv _ c us (h.drewN n1) (by exact ho) (by exact hB) hl).mono ?_;rintro x w2 ⟨rfl,uv',h2,o2,K2⟩;have K2:Kp (λk=>k=b\/uv.ownBlock=some k) w w2:=((Kp.refl _ _).drewN n1).trans K2;clear h ho
  go_wp2_with fail
  have E3:=iV c w2;rw[q3]at E3;refine E3.mono ?_;rintro x w8 ⟨rfl,rfl⟩;clear E3
  go_wp2_with fail
  refine(gY b t p e f sv tv bv uv' w8 _ h2 hp).mono ?_;rintro x w3 ⟨rfl,h3,K3⟩;have o3:=K3.owns o2 (λk hk e=>by subst e;exact own_ne o2 h2 (by decide) hk);have K4:=K2.trans' K3 (λi _ e=>Or.inl e);clear h2 o2 K2 K3;go_wp2;go_ret;exact⟨rfl,uv',h3,o3,K4⟩
 |false=>?_
 rw[show kf c=false by simp[kf,q1,q3]]
 go_enter func252,ntmps252
 go_wp2_with fail
 refine hm E1 ?_;rintro x w1 ⟨rfl,n1,rfl⟩;clear E1
 go_wp2_with fail
 refine(iW B b t p e f sv tv bv uv _ c us (h.drewN n1) (by exact ho) (by exact hB) hl).mono ?_;rintro x w2 ⟨rfl,uv',h2,o2,K2⟩;have K2:Kp (λk=>k=b\/uv.ownBlock=some k) w w2:=((Kp.refl _ _).drewN n1).trans K2;clear h ho
 go_wp2_with fail
 have E3:=iV c w2;rw[q3]at E3;refine E3.mono ?_;rintro x w8 ⟨rfl,rfl⟩;clear E3
 go_wp2_with fail
 refine(gY b t p e f sv tv bv uv' w8 _ h2 hp).mono ?_;rintro x w3 ⟨rfl,h3,K3⟩;have o3:=K3.owns o2 (λk hk e=>by subst e;exact own_ne o2 h2 (by decide) hk);have K4:=K2.trans' K3 (λi _ e=>Or.inl e);clear h2 o2 K2 K3;go_wp2;go_ret;exact⟨rfl,uv',h3,o3,K4⟩
end
def om(w:World)(tb:Nat)(s tg:Int)(g:Gd)(ac:Value)(ta:Int):Prop:=
 w.heap[tb]? =some (.cells #[.int .i64 s,.int .u8 tg,.int .u8 g.var,.int .u8 g.sign,.int .i64 g.digit,ac,.int .u8 ta] 209 (0,0))
section
variable {w:World} {tb:Nat} {s tg:Int} {g:Gd} {ac:Value} {ta:Int}
theorem om.cell(h:om w tb s tg g ac ta)(i:Nat):w.cell? ⟨tb,i,none⟩= #[.int .i64 s,.int .u8 tg,.int .u8 g.var,.int .u8 g.sign,.int .i64 g.digit,ac,.int .u8 ta][i]?:=by unfold om at h;simp[World.cell?,h]
theorem om.free(h:om w tb s tg g ac ta)(i:Nat):w.frozen? ⟨tb,i,none⟩=false:=by unfold om at h;simp[World.frozen?,h]
theorem om.set2(h:om w tb s tg g ac ta)(x:Int):om (w.setCell ⟨tb,2,none⟩ (.int .u8 x)) tb s tg {g with var:=x} ac ta:=by unfold om at*;rw[ah _ h];rfl
theorem om.Zb(h:om w tb s tg g ac ta)(x:Int):om (w.setCell ⟨tb,3,none⟩ (.int .u8 x)) tb s tg {g with sign:=x} ac ta:=by unfold om at*;rw[ah _ h];rfl
theorem om.ack(h:om w tb s tg g ac ta)(x:Int):om (w.setCell ⟨tb,4,none⟩ (.int .i64 x)) tb s tg {g with digit:=x} ac ta:=by unfold om at*;rw[ah _ h];rfl
theorem om.xP(h:om w tb s tg g ac ta)(x:Value):om (w.setCell ⟨tb,5,none⟩ x) tb s tg g x ta:=by unfold om at*;rw[ah _ h];rfl
theorem om.Av(h:om w tb s tg g ac ta)(x:Int):om (w.setCell ⟨tb,6,none⟩ (.int .u8 x)) tb s tg g ac x:=by unfold om at*;rw[ah _ h];rfl
theorem om.keep{S:Nat->Prop}{w':World}(h:om w tb s tg g ac ta)(k:Kp S w w')(hs:¬S tb):om w' tb s tg g ac ta:=Kp.at_ k h hs
theorem om.drewN(h:om w tb s tg g ac ta)(n:Nat):om (w.drewN n) tb s tg g ac ta:=h
theorem om.lt(h:om w tb s tg g ac ta):tb<w.heap.size:=lt_of_block h
theorem om.ne{b:Nat}{t:ByteArray}{p:Nat}{e f sv tv bv uv:Value}(h:om w tb s tg g ac ta)(k:cW w b t p e f sv tv bv uv):tb≠b:=by
 intro x;subst x;unfold om at h;unfold cW at k;rw[h]at k;simp at k
end
theorem cW.zA{w:World}{b:Nat}{t:ByteArray}{p:Nat}{e f sv tv bv uv:Value}(h:cW w b t p e f sv tv bv uv){k:Nat}(hk:k≠b)(o:Nat)(v:Value):
 cW (w.setCell ⟨k,o,none⟩ v) b t p e f sv tv bv uv:=h.keep (S:=λi=>i=k) ((Kp.refl _ _).setCell (by intro _;rfl) _) (Ne.symm hk)
def Ch.me(c:Int):Bool:=c==60||c==61||c==62
theorem Ch.MH(c:Int):((c==60)=true/\me c=true)\/((c==60)=false/\(c==61)=true/\me c=true)\/
 ((c==60)=false/\(c==61)=false/\(c==62)=true/\me c=true)\/((c==60)=false/\(c==61)=false/\(c==62)=false/\me c=false):=by
 unfold me
 cases h1:c==60<;>cases h2:c==61<;>cases h3:c==62<;>simp
def Ch.guard(t:ByteArray)(p:Nat)(g:Gd):Bool×Gd×Nat:=
 if af t p==63 then
  if gw (af t (p+1))then
   if me (af t (p+2))then
    (eI 48 (af t (p+3)),⟨af t (p+1),af t (p+2),af t (p+3)-48⟩,bI (eI 48 (af t (p+3))) (p+3))
   else(false,{g with var:=af t (p+1),sign:=af t (p+2)},p+2)
  else(false,{g with var:=af t (p+1)},p+1)
 else(true,g,p)
theorem Ch.sN{t:ByteArray}{p:Nat}(g:Gd)(hp:p<=t.size):p<=(Ch.guard t p g).2.2/\(Ch.guard t p g).2.2<=t.size:=by
 unfold Ch.guard
 split
 ·rename_i h1
  have l1:=cL (by decide) h1
  split
  ·rename_i h2
   have l2:=kW h2
   split
   ·rename_i h3
    have l3:p+2<t.size:=by
     rcases Nat.lt_or_ge (p+2) t.size with h|h
     ·exact h
     rw[b_ h]at h3;simp[me]at h3
    have l4:=iS (t:=t) (ok:=eI 48 (af t (p+3))) (p:=p+3) (by omega) (nt (by omega));have l5:=kV (eI 48 (af t (p+3))) (p+3);exact⟨by show p<=bI _ _;omega,l4⟩
   exact⟨by show p<=p+2;omega,by show p+2<=_;omega⟩
  exact⟨by show p<=p+1;omega,by show p+1<=_;omega⟩
 exact⟨Nat.le_refl _,hp⟩
section
variable (b tb:Nat) (t:ByteArray) (p:Nat) (s tg ta:Int) (g:Gd) (ac e f sv tv bv uv:Value) (w:World)
theorem xQ(h:cW w b t p e f sv tv bv uv)(T:om w tb s tg g ac ta)(hp:p<=900):
 Calls prog 250 #[.pointer (some ⟨b,0,none⟩),.pointer (some ⟨tb,2,none⟩)] w λx w'=>x= .returned (.bool (Ch.guard t p g).1)/\
  cW w' b t (Ch.guard t p g).2.2 e f sv tv bv uv/\om w' tb s tg (Ch.guard t p g).2.1 ac ta/\Kp (λk=>k=b\/k=tb) w w':=by
 have hne:=T.ne h
 have Kt:∀w',Kp (λk=>k=b) w w'->om w' tb s tg g ac ta:=λw' k=>T.keep k hne
 have E:=hid (pF b t p e f sv tv bv uv w 63 h (by omega))
 cases q0:af t p==63 with
 |false=>
  rw[show Ch.guard t p g=(true,g,p)by simp[Ch.guard,q0]];rw[q0]at E;clear q0
  go_enter func250,ntmps250
  go_wp2_with fail
  refine hm E ?_;rintro x w1 ⟨rfl,h1,K0⟩;have T1:=T.keep K0 hne;have K1:Kp (λk=>k=b\/k=tb) w w1:=K0.mono (λ_ _ x=>Or.inl x);clear K0 E h T Kt;go_wp2;go_ret;exact⟨rfl,h1,T1,K1⟩
 |true=>?_
 rw[q0]at E
 cases q1:gw (af t (p+1))with
 |false=>
  rw[show Ch.guard t p g=(false,{g with var:=af t (p+1)},p+1)by simp[Ch.guard,q0,q1]];have q1:=hid q1;clear q0
  go_enter func250,ntmps250
  go_wp2_with fail
  refine hm E ?_;rintro x w1 ⟨rfl,h1,K0⟩;have T1:=T.keep K0 hne;have K1:Kp (λk=>k=b\/k=tb) w w1:=K0.mono (λ_ _ x=>Or.inl x);clear K0 E h T Kt;have h1:cW w1 b t (p+1) e f sv tv bv uv:=h1
  go_wp2_with fail
  refine(aV b t (p+1) _ h1.text h1.pos).mono ?_;rintro x wx ⟨rfl,nx,rfl⟩;have h2:=h1.drewN nx;have T2:=T1.drewN nx;have K2:=K1.drewN nx;generalize w1.drewN nx=w2 at h2 T2 K2⊢;clear h1 T1 K1;have cc:=T2.cell 2;have ff:=T2.free 2;simp only[List.getElem?_toArray,List.getElem?_cons_succ,List.getElem?_cons_zero]at cc;have HH:=hid (ae h2 (ae T2 K2));clear h2 T2 K2
  go_wp2_with fail
  obtain⟨h2,T2,K2⟩:=HH.out;clear HH cc ff;have h3:=h2.zA hne 2 (.int .u8 (af t (p+1)));have T3:=T2.set2 (af t (p+1));have K3:Kp (λk=>k=b\/k=tb) w (w2.setCell ⟨tb,2,none⟩ (.int .u8 (af t (p+1)))):=K2.setCell (by intro _;exact Or.inr rfl) _;generalize w2.setCell ⟨tb,2,none⟩ (.int .u8 (af t (p+1)))=w3 at h3 T3 K3⊢;clear h2 T2 K2
  go_wp2_with fail
  have E:=gZ b t (p+1) e f sv tv bv uv w3 h3 (by omega);rw[q1.out]at E;refine Calls.mono E ?_;rintro x w4 ⟨rfl,h4,K0⟩;have T4:=T3.keep K0 hne;have K4:=K3.trans' K0 (λ_ _ x=>Or.inl x);clear K0 E h3 T3 K3;go_wp2;go_ret;exact⟨rfl,h4,T4,K4⟩
 |true=>?_
 have q1:=hid q1
 rcases MH (af t (p+2))with⟨b1,q2⟩|⟨b1,b2,q2⟩|⟨b1,b2,b3,q2⟩|⟨b1,b2,b3,q2⟩
 case inr.inr.inr=>
  rw[show Ch.guard t p g=(false,{g with var:=af t (p+1),sign:=af t (p+2)},p+2)by simp[Ch.guard,q0,q1.out,q2]];clear q0 q2
  go_enter func250,ntmps250
  go_wp2_with fail
  refine hm E ?_;rintro x w1 ⟨rfl,h1,K0⟩;have T1:=T.keep K0 hne;have K1:Kp (λk=>k=b\/k=tb) w w1:=K0.mono (λ_ _ x=>Or.inl x);clear K0 E h T Kt;have h1:cW w1 b t (p+1) e f sv tv bv uv:=h1
  go_wp2_with fail
  refine(aV b t (p+1) _ h1.text h1.pos).mono ?_;rintro x wx ⟨rfl,nx,rfl⟩;have h2:=h1.drewN nx;have T2:=T1.drewN nx;have K2:=K1.drewN nx;generalize w1.drewN nx=w2 at h2 T2 K2⊢;clear h1 T1 K1;have cc:=T2.cell 2;have ff:=T2.free 2;simp only[List.getElem?_toArray,List.getElem?_cons_succ,List.getElem?_cons_zero]at cc;have HH:=hid (ae h2 (ae T2 K2));clear h2 T2 K2
  go_wp2_with fail
  obtain⟨h2,T2,K2⟩:=HH.out;clear HH cc ff;have h3:=h2.zA hne 2 (.int .u8 (af t (p+1)));have T3:=T2.set2 (af t (p+1));have K3:Kp (λk=>k=b\/k=tb) w (w2.setCell ⟨tb,2,none⟩ (.int .u8 (af t (p+1)))):=K2.setCell (by intro _;exact Or.inr rfl) _;generalize w2.setCell ⟨tb,2,none⟩ (.int .u8 (af t (p+1)))=w3 at h3 T3 K3⊢;clear h2 T2 K2
  go_wp2_with fail
  have E:=gZ b t (p+1) e f sv tv bv uv w3 h3 (by omega);rw[q1.out]at E;refine Calls.mono E ?_;rintro x w4 ⟨rfl,h4,K0⟩;have T4:=T3.keep K0 hne;have K4:=K3.trans' K0 (λ_ _ x=>Or.inl x);clear K0 E h3 T3 K3;have h4:cW w4 b t (p+2) e f sv tv bv uv:=h4
  go_wp2_with fail
  refine(aV b t (p+2) _ h4.text h4.pos).mono ?_;rintro x wx ⟨rfl,nx,rfl⟩;have h5:=h4.drewN nx;have T5:=T4.drewN nx;have K5:=K4.drewN nx;generalize w4.drewN nx=w5 at h5 T5 K5⊢;clear h4 T4 K4;have cc:=T5.cell 3;have ff:=T5.free 3;simp only[List.getElem?_toArray,List.getElem?_cons_succ,List.getElem?_cons_zero]at cc;have HH:=hid (ae h5 (ae T5 K5));clear h5 T5 K5
  go_wp2_with fail
  obtain⟨h5,T5,K5⟩:=HH.out;clear HH cc ff;have h6:=h5.zA hne 3 (.int .u8 (af t (p+2)));have T6:=T5.Zb (af t (p+2));have K6:Kp (λk=>k=b\/k=tb) w (w5.setCell ⟨tb,3,none⟩ (.int .u8 (af t (p+2)))):=K5.setCell (by intro _;exact Or.inr rfl) _;generalize w5.setCell ⟨tb,3,none⟩ (.int .u8 (af t (p+2)))=w6 at h6 T6 K6⊢;clear h5 T5 K5;refine(gY b t (p+2) e f sv tv bv uv w6 _ h6 (by omega)).mono ?_;rintro x w7 ⟨rfl,h7,K0⟩;have T7:=T6.keep K0 hne;have K7:=K6.trans' K0 (λ_ _ x=>Or.inl x);clear K0 h6 T6 K6;go_wp2;go_ret;exact⟨rfl,h7,T7,K7⟩
 all_goals
  rw[show Ch.guard t p g=(eI 48 (af t (p+3)),⟨af t (p+1),af t (p+2),af t (p+3)-48⟩,bI (eI 48 (af t (p+3))) (p+3))by simp[Ch.guard,q0,q1.out,q2]];clear q0 q2
  go_enter func250,ntmps250
  go_wp2_with fail
  refine hm E ?_;rintro x w1 ⟨rfl,h1,K0⟩;have T1:=T.keep K0 hne;have K1:Kp (λk=>k=b\/k=tb) w w1:=K0.mono (λ_ _ x=>Or.inl x);clear K0 E h T Kt;have h1:cW w1 b t (p+1) e f sv tv bv uv:=h1
  go_wp2_with fail
  refine(aV b t (p+1) _ h1.text h1.pos).mono ?_;rintro x wx ⟨rfl,nx,rfl⟩;have h2:=h1.drewN nx;have T2:=T1.drewN nx;have K2:=K1.drewN nx;generalize w1.drewN nx=w2 at h2 T2 K2⊢;clear h1 T1 K1;have cc:=T2.cell 2;have ff:=T2.free 2;simp only[List.getElem?_toArray,List.getElem?_cons_succ,List.getElem?_cons_zero]at cc;have HH:=hid (ae h2 (ae T2 K2));clear h2 T2 K2
  go_wp2_with fail
  obtain⟨h2,T2,K2⟩:=HH.out;clear HH cc ff;have h3:=h2.zA hne 2 (.int .u8 (af t (p+1)));have T3:=T2.set2 (af t (p+1));have K3:Kp (λk=>k=b\/k=tb) w (w2.setCell ⟨tb,2,none⟩ (.int .u8 (af t (p+1)))):=K2.setCell (by intro _;exact Or.inr rfl) _;generalize w2.setCell ⟨tb,2,none⟩ (.int .u8 (af t (p+1)))=w3 at h3 T3 K3⊢;clear h2 T2 K2
  go_wp2_with fail
  have E:=gZ b t (p+1) e f sv tv bv uv w3 h3 (by omega);rw[q1.out]at E;refine Calls.mono E ?_;rintro x w4 ⟨rfl,h4,K0⟩;have T4:=T3.keep K0 hne;have K4:=K3.trans' K0 (λ_ _ x=>Or.inl x);clear K0 E h3 T3 K3;have h4:cW w4 b t (p+2) e f sv tv bv uv:=h4
  go_wp2_with fail
  refine(aV b t (p+2) _ h4.text h4.pos).mono ?_;rintro x wx ⟨rfl,nx,rfl⟩;have h5:=h4.drewN nx;have T5:=T4.drewN nx;have K5:=K4.drewN nx;generalize w4.drewN nx=w5 at h5 T5 K5⊢;clear h4 T4 K4;have cc:=T5.cell 3;have ff:=T5.free 3;simp only[List.getElem?_toArray,List.getElem?_cons_succ,List.getElem?_cons_zero]at cc;have HH:=hid (ae h5 (ae T5 K5));clear h5 T5 K5
  go_wp2_with fail
  obtain⟨h5,T5,K5⟩:=HH.out;clear HH cc ff;have h6:=h5.zA hne 3 (.int .u8 (af t (p+2)));have T6:=T5.Zb (af t (p+2));have K6:Kp (λk=>k=b\/k=tb) w (w5.setCell ⟨tb,3,none⟩ (.int .u8 (af t (p+2)))):=K5.setCell (by intro _;exact Or.inr rfl) _;generalize w5.setCell ⟨tb,3,none⟩ (.int .u8 (af t (p+2)))=w6 at h6 T6 K6⊢;clear h5 T5 K5;refine(gY b t (p+2) e f sv tv bv uv w6 _ h6 (by omega)).mono ?_;rintro x w7 ⟨rfl,h7,K0⟩;have T7:=T6.keep K0 hne;have K7:=K6.trans' K0 (λ_ _ x=>Or.inl x);clear K0 h6 T6 K6;have h7:cW w7 b t (p+3) e f sv tv bv uv:=h7
  go_wp2_with fail
  refine(oS b t (p+3) _ h7.text h7.pos).mono ?_;rintro x wx ⟨rfl,nx,rfl⟩;have h8:=h7.drewN nx;have T8:=T7.drewN nx;have K8:=K7.drewN nx;generalize w7.drewN nx=w8 at h8 T8 K8⊢;clear h7 T7 K7;have cc:=T8.cell 4;have ff:=T8.free 4;simp only[List.getElem?_toArray,List.getElem?_cons_succ,List.getElem?_cons_zero]at cc;have HH:=hid (ae h8 (ae T8 K8));clear h8 T8 K8
  go_wp2_with fail
  obtain⟨h8,T8,K8⟩:=HH.out;clear HH cc ff;have h9:=h8.zA hne 4 (.int .i64 (af t (p+3)-48));have T9:=T8.ack (af t (p+3)-48);have K9:Kp (λk=>k=b\/k=tb) w (w8.setCell ⟨tb,4,none⟩ (.int .i64 (af t (p+3)-48))):=K8.setCell (by intro _;exact Or.inr rfl) _;generalize w8.setCell ⟨tb,4,none⟩ (.int .i64 (af t (p+3)-48))=w9 at h9 T9 K9⊢;clear h8 T8 K8;refine(oQ b t (p+3) e f sv tv bv uv w9 48 h9 (by omega)).mono ?_;rintro x wz ⟨rfl,hz,K0⟩;have Tz:=T9.keep K0 hne;have Kz:=K9.trans' K0 (λ_ _ x=>Or.inl x);clear K0 h9 T9 K9;go_wp2;go_ret;exact⟨rfl,hz,Tz,Kz⟩
end
def dL(l:List St):List Value:=l.flatMap λa=>[.int .u8 a.name,.int .i64 a.pos,.int .i64 a.kind,.int .i64 a.parent]
def qZ(l:List (Tr×Value)):List Value:=l.flatMap λx=>[.int .i64 x.1.state,.int .u8 x.1.kr,.int .u8 x.1.guard.var,.int .u8 x.1.guard.sign,.int .i64 x.1.guard.digit,x.2,.int .u8 x.1.target]
def q_(l:List (Bl×Value)):List Value:=l.flatMap λx=>[.int .i64 x.1.state,.int .u8 x.1.sign,x.2]
theorem F_(l:List St)(a:St):dL (l++[a])=dL l++[.int .u8 a.name,.int .i64 a.pos,.int .i64 a.kind,.int .i64 a.parent]:=by simp[dL]
theorem Ga(l:List (Tr×Value))(x:Tr×Value):qZ (l++[x])=qZ l++[.int .i64 x.1.state,.int .u8 x.1.kr,.int .u8 x.1.guard.var,.int .u8 x.1.guard.sign,.int .i64 x.1.guard.digit,x.2,.int .u8 x.1.target]:=by simp[qZ]
theorem Gb(l:List (Bl×Value))(x:Bl×Value):q_ (l++[x])=q_ l++[.int .i64 x.1.state,.int .u8 x.1.sign,x.2]:=by simp[q_]
structure D0(w:World)(B b:Nat)(t:ByteArray)(r:Rs)(sv tv bv uv:Value)(lt:List (Tr×Value))(lb:List (Bl×Value)):Prop where
 blk:cW w b t r.pos (.int .i64 0) (.int .i64 0) sv tv bv uv
 ag:w.ownsRow B 155 4 sv r.ag.length (dL r.ag)
 Iw:lt.map (·.1)=r.bG
 bG:w.ownsRow B 209 7 tv lt.length (qZ lt)
 iX:∀x∈lt,w.ownsRow B 255 3 x.2 x.1.acts.length (fD x.1.acts)
 Mj:lb.map (·.1)=r.dz
 dz:w.ownsRow B 282 3 bv lb.length (q_ lb)
 rh:∀x∈lb,w.ownsRow B 255 3 x.2 x.1.acts.length (fD x.1.acts)
 uses:w.ownsRow B 242 2 uv r.uses.length (eF r.uses)
 hb:B<=b
section
variable {w w':World} {B b:Nat} {t:ByteArray} {r:Rs} {sv tv bv uv:Value} {lt:List (Tr×Value)} {lb:List (Bl×Value)} {S:Nat->Prop}
theorem D0.move(h:D0 w B b t r sv tv bv uv lt lb)(k:Kp S w w')(hS:∀i,i<w.heap.size->S i->i=b){p:Nat}(hb:cW w' b t p (.int .i64 0) (.int .i64 0) sv tv bv uv):
 D0 w' B b t {r with pos:=p} sv tv bv uv lt lb:=by
 have hS':∀{base e size v n xs},w.ownsRow base e size v n xs->e≠143->∀i,v.ownBlock=some i->¬S i:=by
  intro base e size v n xs ho he i hi hs;obtain⟨cur,hc⟩:=br ho hi;have:=hS i (lt_of_block hc) hs;subst this;exact own_ne ho h.blk he hi
 exact⟨hb,k.owns h.ag (hS' h.ag (by decide)),h.Iw,k.owns h.bG (hS' h.bG (by decide)),λx hx=>k.owns (h.iX x hx) (hS' (h.iX x hx) (by decide)),
  h.Mj,k.owns h.dz (hS' h.dz (by decide)),λx hx=>k.owns (h.rh x hx) (hS' (h.rh x hx) (by decide)),k.owns h.uses (hS' h.uses (by decide)),h.hb⟩
theorem D0.II(h:D0 w B b t r sv tv bv uv lt lb)(k:Kp S w w')(hS:∀i,i<w.heap.size->S i->i=b\/uv.ownBlock=some i){p:Nat}{uv':Value}{us:List Us}
 (hb:cW w' b t p (.int .i64 0) (.int .i64 0) sv tv bv uv') (ho:w'.ownsRow B 242 2 uv' us.length (eF us)):
 D0 w' B b t {r with pos:=p,uses:=us} sv tv bv uv' lt lb:=by
 have hS':∀{base e size v n xs},w.ownsRow base e size v n xs->e≠143->e≠242->∀i,v.ownBlock=some i->¬S i:=by
  intro base e size v n xs ho he hu i hi hs;obtain⟨cur,hc⟩:=br ho hi
  rcases hS i (lt_of_block hc) hs with rfl|hx
  ·exact own_ne ho h.blk he hi
  exact cC ho h.uses hu i hi hx
 exact⟨hb,k.owns h.ag (hS' h.ag (by decide) (by decide)),h.Iw,k.owns h.bG (hS' h.bG (by decide) (by decide)),λx hx=>k.owns (h.iX x hx) (hS' (h.iX x hx) (by decide) (by decide)),
  h.Mj,k.owns h.dz (hS' h.dz (by decide) (by decide)),λx hx=>k.owns (h.rh x hx) (hS' (h.rh x hx) (by decide) (by decide)),ho,h.hb⟩
theorem D0.aiJ(h:D0 w B b t r sv tv bv uv lt lb)(k:Kp S w w')(hS:∀i,i<w.heap.size->S i->i=b\/tv.ownBlock=some i){tv':Value}{x:Tr×Value}
 (hb:cW w' b t r.pos (.int .i64 0) (.int .i64 0) sv tv' bv uv) (ho:w'.ownsRow B 209 7 tv' (lt++[x]).length (qZ (lt++[x])))
 (ha:w'.ownsRow B 255 3 x.2 x.1.acts.length (fD x.1.acts)):
 D0 w' B b t {r with bG:=r.bG++[x.1]} sv tv' bv uv (lt++[x]) lb:=by
 have hS':∀{base e size v n xs},w.ownsRow base e size v n xs->e≠143->e≠209->∀i,v.ownBlock=some i->¬S i:=by
  intro base e size v n xs ho he hu i hi hs;obtain⟨cur,hc⟩:=br ho hi
  rcases hS i (lt_of_block hc) hs with rfl|hx
  ·exact own_ne ho h.blk he hi
  exact cC ho h.bG hu i hi hx
 refine⟨hb,k.owns h.ag (hS' h.ag (by decide) (by decide)),by simp[h.Iw],ho,λy hy=>?_,
  h.Mj,k.owns h.dz (hS' h.dz (by decide) (by decide)),λx hx=>k.owns (h.rh x hx) (hS' (h.rh x hx) (by decide) (by decide)),k.owns h.uses (hS' h.uses (by decide) (by decide)),h.hb⟩
 rcases List.mem_append.1 hy with hy|hy
 ·exact k.owns (h.iX y hy) (hS' (h.iX y hy) (by decide) (by decide))
 simp at hy;subst hy;exact ha
theorem D0.aiK(h:D0 w B b t r sv tv bv uv lt lb)(k:Kp S w w')(hS:∀i,i<w.heap.size->S i->i=b\/bv.ownBlock=some i){bv':Value}{x:Bl×Value}
 (hb:cW w' b t r.pos (.int .i64 0) (.int .i64 0) sv tv bv' uv) (ho:w'.ownsRow B 282 3 bv' (lb++[x]).length (q_ (lb++[x])))
 (ha:w'.ownsRow B 255 3 x.2 x.1.acts.length (fD x.1.acts)):
 D0 w' B b t {r with dz:=r.dz++[x.1]} sv tv bv' uv lt (lb++[x]):=by
 have hS':∀{base e size v n xs},w.ownsRow base e size v n xs->e≠143->e≠282->∀i,v.ownBlock=some i->¬S i:=by
  intro base e size v n xs ho he hu i hi hs;obtain⟨cur,hc⟩:=br ho hi
  rcases hS i (lt_of_block hc) hs with rfl|hx
  ·exact own_ne ho h.blk he hi
  exact cC ho h.dz hu i hi hx
 refine⟨hb,k.owns h.ag (hS' h.ag (by decide) (by decide)),h.Iw,k.owns h.bG (hS' h.bG (by decide) (by decide)),λx hx=>k.owns (h.iX x hx) (hS' (h.iX x hx) (by decide) (by decide)),
  by simp[h.Mj],ho,λy hy=>?_,k.owns h.uses (hS' h.uses (by decide) (by decide)),h.hb⟩
 rcases List.mem_append.1 hy with hy|hy
 ·exact k.owns (h.rh y hy) (hS' (h.rh y hy) (by decide) (by decide))
 simp at hy;subst hy;exact ha
theorem D0.aeY(h:D0 w B b t r sv tv bv uv lt lb)(k:Kp S w w')(hS:∀i,i<w.heap.size->S i->i=b\/sv.ownBlock=some i){sv':Value}{ss:List St}{p:Nat}
 (hb:cW w' b t p (.int .i64 0) (.int .i64 0) sv' tv bv uv) (ho:w'.ownsRow B 155 4 sv' ss.length (dL ss)):
 D0 w' B b t {r with pos:=p,ag:=ss} sv' tv bv uv lt lb:=by
 have hS':∀{base e size v n xs},w.ownsRow base e size v n xs->e≠143->e≠155->∀i,v.ownBlock=some i->¬S i:=by
  intro base e size v n xs ho he hu i hi hs;obtain⟨cur,hc⟩:=br ho hi
  rcases hS i (lt_of_block hc) hs with rfl|hx
  ·exact own_ne ho h.blk he hi
  exact cC ho h.ag hu i hi hx
 exact⟨hb,ho,h.Iw,k.owns h.bG (hS' h.bG (by decide) (by decide)),λx hx=>k.owns (h.iX x hx) (hS' (h.iX x hx) (by decide) (by decide)),
  h.Mj,k.owns h.dz (hS' h.dz (by decide) (by decide)),λx hx=>k.owns (h.rh x hx) (hS' (h.rh x hx) (by decide) (by decide)),k.owns h.uses (hS' h.uses (by decide) (by decide)),h.hb⟩
theorem D0.low(h:D0 w B b t r sv tv bv uv lt lb){i:Nat}(hi:i=b\/sv.ownBlock=some i\/tv.ownBlock=some i\/bv.ownBlock=some i\/uv.ownBlock=some i):B<=i:=by
 rcases hi with rfl|hi|hi|hi|hi
 ·exact h.hb
 ·exact(h.ag.lt i hi).1
 ·exact(h.bG.lt i hi).1
 ·exact(h.dz.lt i hi).1
 exact(h.uses.lt i hi).1
theorem D0.bp(h:D0 w B b t r sv tv bv uv lt lb):B<=w.heap.size:=by have:=h.hb;have:=h.blk.lt;omega
end
def Rd(w:World)(B b:Nat)(t:ByteArray)(r:Rs):Prop:=∃sv tv bv uv lt lb,D0 w B b t r sv tv bv uv lt lb
def Ch.Bd(r:Rs):Prop:=r.ag.length<=r.pos/\r.bG.length<=r.pos/\r.dz.length<=r.pos/\r.uses.length<=r.pos
end Go.Proofs.YtnlbchmfcebeeaaGreat
