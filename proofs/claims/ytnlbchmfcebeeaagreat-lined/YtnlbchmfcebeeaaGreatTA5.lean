import Derived.Test.YtnlbchmfcebeeaaGreatTA3
set_option maxHeartbeats 12800000
set_option maxRecDepth 100000
namespace Go.Proofs.YtnlbchmfcebeeaaGreat
open Go.Proofs.Tryz Ch
open Go.RowKit
theorem arR:(prog.info? 155).map (λi=>(i.zero,i.size,i.bytes))=some (some (.agg #[.int .u8 0,.int .i64 0,.int .i64 0,.int .i64 0]),4,32):=by kernel_rfl
def Ch.bn(parent:Int)(ss:List St):List St:=
 match parent with
 | .ofNat k=>match ss[k]? with
   |some s=>if s.kind==1 then ss.set k {s with kind:=2}else ss
   |none=>ss
 | .negSucc _=>ss
theorem Ax(ss:List St)(k:Nat)(s:St)(h:ss[k]? =some s):
 (dL ss)[k*4]? =some (.int .u8 s.name)/\(dL ss)[k*4+1]? =some (.int .i64 s.pos)/\(dL ss)[k*4+2]? =some (.int .i64 s.kind)/\(dL ss)[k*4+3]? =some (.int .i64 s.parent):=by
 induction ss generalizing k with
 |nil=>simp at h
 |cons a l ih=>?_
 cases k with
 |zero=>simp at h;subst h;simp[dL]
 |succ k=>?_
 have:=ih k (by simpa using h)
 have e:dL (a::l)=[.int .u8 a.name,.int .i64 a.pos,.int .i64 a.kind,.int .i64 a.parent]++dL l:=by simp[dL]
 rw[e]
 have q:∀j,([Value.int .u8 a.name,.int .i64 a.pos,.int .i64 a.kind,.int .i64 a.parent]++dL l)[(k+1)*4+j]? =(dL l)[k*4+j]?:=by
  intro j;rw[List.getElem?_append_right (by simp;omega)]
  congr 1
  simp;omega
 exact⟨by simpa using(q 0).trans (by simpa using this.1),(q 1).trans this.2.1,(q 2).trans this.2.2.1,(q 3).trans this.2.2.2⟩
theorem IJ(ss:List St)(k:Nat)(s:St)(x:Int)(h:ss[k]? =some s):(dL ss).set (k*4+2) (.int .i64 x)=dL (ss.set k {s with kind:=x}):=by
 induction ss generalizing k with
 |nil=>simp at h
 |cons a l ih=>?_
 have e:∀(a:St) l,dL (a::l)= .int .u8 a.name:: .int .i64 a.pos:: .int .i64 a.kind:: .int .i64 a.parent::dL l:=by intro a l;simp[dL]
 cases k with
 |zero=>simp at h;subst h;simp[e]
 |succ k=>?_
 have:=ih k (by simpa using h);rw[List.set_cons_succ,e,e,<-this,show(k+1)*4+2=(k*4+2)+1+1+1+1 by omega];simp only[List.set_cons_succ]
section
variable (B b:Nat) (t:ByteArray) (p:Nat) (e f sv tv bv uv:Value) (w:World)
theorem Ay(parent:Int)(ss:List St)(h:cW w b t p e f sv tv bv uv)(ho:w.ownsRow B 155 4 sv ss.length (dL ss))(hl:ss.length<=1000):
 Calls prog 213 #[.pointer (some ⟨b,0,none⟩),.int .i64 parent] w λx w'=>x= .returned (.tuple #[])/\cW w' b t p e f sv tv bv uv/\
  w'.ownsRow B 155 4 sv (bn parent ss).length (dL (bn parent ss))/\Kp (λk=>k=b\/sv.ownBlock=some k) w w':=by
 have c4:=h.c4
 by_cases h0:parent<0
 ·have e0:bn parent ss=ss:=by
   cases parent with
   |ofNat k=>exact absurd h0 (by simp)
   |negSucc k=>rfl
  rw[e0];have H:=hid (ae h ho);clear h ho e0
  go_enter func213,ntmps213
  go_wp2;refine bodyPost_ret (results_none rfl _ _ _) rfl ?_;exact⟨rfl,H.out.1,H.out.2,Kp.refl _ _⟩
 obtain⟨k,rfl⟩:∃k:Nat,parent=(k:Int):=⟨parent.toNat,by omega⟩
 by_cases h1:k<ss.length
 ·obtain⟨g,cap,rfl⟩:=gD ho (by omega)
  obtain⟨s,hs⟩:∃s,ss[k]? =some s:=⟨_,List.getElem?_eq_getElem h1⟩
  have cz:=ho.cellAt (k*4+2) (by omega);rw[(Ax ss k s hs).2.2.1]at cz;have fz:=ho.frozenAt (k*4+2)
  have hd:decide ((k:Int)<0)=false:=by simp
  have hlt:(k:Int)<(ss.length:Int):=by omega
  have H:=hid (ae h (ae ho hs));clear h ho hs h0
  cases hk:s.kind==1 with
  |false=>
   have HF:=hid (show bn (k:Int) ss=ss by show(match ss[k]? with|some s=>_|none=>_)=_;rw[H.out.2.2];simp[hk])
   go_enter func213,ntmps213
   go_wp2
   go_end0
   rw[HF.out];exact⟨rfl,H.out.1,H.out.2.1,Kp.refl _ _⟩
  |true=>?_
  have HF:=hid (show bn (k:Int) ss=ss.set k {s with kind:=2}by show(match ss[k]? with|some s=>_|none=>_)=_;rw[H.out.2.2];simp[hk]);have hng:=hid (own_ne H.out.2.1 H.out.1 (by decide))
  go_enter func213,ntmps213
  go_wp2
  go_end0
  rw[HF.out];obtain⟨h,ho,hs⟩:=H.out;have o2:=(ho.stored (k*4+2) (.int .i64 2)).1;rw[IJ ss k s 2 hs]at o2;refine⟨rfl,h.zA (λx=>hng.out (by simp[Value.ownBlock,x])) _ _,by simpa using o2,(Kp.refl _ _).setCell (by intro _;exact Or.inr rfl) _⟩
 have e0:bn (k:Int) ss=ss:=by show(match ss[k]? with|some s=>_|none=>_)=_;rw[List.getElem?_eq_none (by omega)]
 rw[e0];obtain⟨ao,am,C5,rfl⟩:=ew ho
 have hm:am=ss.length:=by
  rcases ho.2 with⟨x,y⟩|⟨g,cp,cur,x,_⟩
  ·simp at x;omega
  simp at x;omega
 subst hm
 have hd:decide ((k:Int)<0)=false:=by simp
 have hge:(ss.length:Int)<=(k:Int):=by omega
 have H:=hid (ae h ho);clear h ho e0 h1 h0
 go_enter func213,ntmps213
 go_wp2;refine bodyPost_ret (results_none rfl _ _ _) rfl ?_;exact⟨rfl,H.out.1,H.out.2,Kp.refl _ _⟩
def Ch.aC(t:ByteArray)(op parent:Int)(r:Rs):Bool×Rs:=
 if bx (af t r.pos)then(true,{r with pos:=r.pos+1,ag:=bn parent (r.ag++[⟨af t r.pos,r.pos,kindOf op,parent⟩])})else(false,r)
theorem Ch.dH(parent:Int)(ss:List St):(bn parent ss).length=ss.length:=by
 unfold bn;split
 ·split
  ·split<;>simp
  rfl
 rfl
theorem jL(op parent:Int)(r:Rs)(H:Rd w B b t r)(hd:Bd r)(ht:t.size<=240)(hp:r.pos<=t.size):
 Calls prog 155 #[.pointer (some ⟨b,0,none⟩),.int .u8 op,.int .i64 parent] w λx w'=>x= .returned (.bool (aC t op parent r).1)/\Rd w' B b t (aC t op parent r).2/\Below B w w':=by
 obtain⟨sv,tv,bv,uv,lt,lb,h⟩:=H;obtain⟨d1,d2,d3,d4⟩:=hd;have hl0:=h.bp
 cases q1:bx (af t r.pos)with
 |false=>
  rw[show aC t op parent r=(false,r)by simp[aC,q1]];have q1:=hid q1
  go_enter func155,ntmps155
  go_wp2_with fail
  refine(aV b t r.pos _ h.blk.text h.blk.pos).mono ?_;rintro x w1 ⟨rfl,n1,rfl⟩
  go_wp2_with fail
  have E:=iV (af t r.pos) (w.drewN n1);rw[q1.out]at E;refine Calls.mono E ?_;rintro x w2 ⟨rfl,rfl⟩;go_wp2;go_ret;have K1:Kp (λk=>k=b) w (w.drewN n1):=(Kp.refl _ _).drewN _;exact⟨rfl,⟨_,_,_,_,_,_,h.move K1 (λ_ _ x=>x) (h.blk.drewN n1)⟩,K1.below h.bp (λk x=>h.low (Or.inl x))⟩
 |true=>?_
 rw[show aC t op parent r=(true,{r with pos:=r.pos+1,ag:=bn parent (r.ag++[⟨af t r.pos,r.pos,kindOf op,parent⟩])})by simp[aC,q1]];have q1:=hid q1;obtain⟨i0,hi,hz0,hz1,hz2⟩:=info_parts arR
 go_enter func155,ntmps155
 go_wp2_with fail
 refine(aV b t r.pos _ h.blk.text h.blk.pos).mono ?_;rintro x w1 ⟨rfl,n1,rfl⟩
 go_wp2_with fail
 have E:=iV (af t r.pos) (w.drewN n1);rw[q1.out]at E;refine Calls.mono E ?_;rintro x w2 ⟨rfl,rfl⟩;clear E
 go_wp2_with fail
 refine(MD op _).mono ?_;rintro x w2 ⟨rfl,rfl⟩;have K1:Kp (λk=>k=b) w (w.drewN n1):=(Kp.refl _ _).drewN _;have F1:=h.move K1 (λ_ _ x=>x) (h.blk.drewN n1);have B1:Below B w (w.drewN n1):=K1.below h.bp (λk x=>h.low (Or.inl x));generalize w.drewN n1=w8 at K1 F1 B1⊢;have R8:=F1.blk;have c1:=R8.pos;have c4:=R8.c4
 have c4a:∀o,(w8.alloc o).cell? ⟨b,4,none⟩=some sv:=λo=>(R8.alloc o).c4
 have f4:=R8.free 4;have hnt:=hid (own_ne F1.ag R8 (by decide));have Vq:=hid F1.bp;have HH:=hid (ae R8 (ae F1 B1));clear R8 F1 K1 B1 h
 go_upto_region 5 with(fail)
 go_region_law (refine gA rfl (.tmp 21) (.tmp 30) 83 rfl B 155 i0 (.agg #[.int .u8 0,.int .i64 0,.int .i64 0,.int .i64 0]) 4 32 underlying83 hi hz0 hz1 hz2 rfl (by decide) sv r.ag.length (dL r.ag) (by simp[Act.eval]) (by exact HH.out.2.1.ag.alloc _) ⟨w8.heap.size,0,none⟩ 1 1 [.int .u8 (af t r.pos),.int .i64 r.pos,.int .i64 (kindOf op),.int .i64 parent] (by simp[Act.eval]) rfl (by exact gB _ _ _) (by intro u hu;simp at hu;rcases hu with rfl|rfl|rfl|rfl<;>rfl) (by decide) (by unfold maxLen;omega) (by omega) (by have:=Vq.out;simp;omega) ?_;intro g cap w9 o9 g9;have R9:cW w9 b t r.pos (.int .i64 0) (.int .i64 0) sv tv bv uv:=cW.grown (by exact HH.out.1.alloc (.cells #[.int .u8 (af t r.pos),.int .i64 r.pos,.int .i64 (kindOf op),.int .i64 parent] 155)) g9 hnt.out;have K9:Kp (λk=>k=b\/sv.ownBlock=some k) w8 w9:=Kp.grown (by exact((Kp.refl _ _).alloc (.cells #[.int .u8 (af t r.pos),.int .i64 r.pos,.int .i64 (kindOf op),.int .i64 parent] 155)).drew) g9 (λk hk _=>Or.inr hk);have x1:=R9.c4;have x2:=R9.free 4;have H9:=hid (ae R9 (ae o9 K9));clear R9 o9 K9 g9)
 all_goals
  obtain⟨R9,o9,K9⟩:=H9.out;obtain⟨R8,F8,B8⟩:=HH.out;clear x1 x2 H9 HH c1 c4 c4a f4;have Ra:=R9.ack (.slice (some ⟨g,0,none⟩) (r.ag.length+1) cap);have Oa:=ownsRow_setCell_other o9 (a:=⟨b,4,none⟩) (own_ne o9 R9 (by decide)) (.slice (some ⟨g,0,none⟩) (r.ag.length+1) cap);have Ka:Kp (λk=>k=b\/sv.ownBlock=some k) w8 (w9.setCell ⟨b,4,none⟩ (.slice (some ⟨g,0,none⟩) (r.ag.length+1) cap)):=K9.setCell (by intro _;exact Or.inl rfl) _;generalize w9.setCell ⟨b,4,none⟩ (.slice (some ⟨g,0,none⟩) (r.ag.length+1) cap)=wa at Ra Oa Ka⊢;have Fa:=F8.aeY Ka (λ_ _ x=>x) (ss:=r.ag++[⟨af t r.pos,r.pos,kindOf op,parent⟩]) Ra (by rw[F_];simpa using Oa);have Ba:=B8.trans (Ka.below F8.bp (λk x=>F8.low (by rcases x with x|x;exact Or.inl x;exact Or.inr (Or.inl x))));clear R9 o9 K9 R8 F8 B8 Ka Oa Ra
  go_wp2_with fail
  refine(Ay B b t r.pos (.int .i64 0) (.int .i64 0) _ tv bv uv wa parent _ Fa.blk Fa.ag (by simp;omega)).mono ?_;rintro x wb ⟨rfl,Rb,Ob,Kb⟩;have Fb:=Fa.aeY Kb (λ_ _ x=>x) Rb Ob;have Bb:=Ba.trans (Kb.below Fa.bp (λk x=>Fa.low (by rcases x with x|x;exact Or.inl x;exact Or.inr (Or.inl x))));clear Rb Ob Kb Fa Ba;have y1:=Fb.blk.pos;have y2:=Fb.blk.free 1;have HH:=hid (ae Fb Bb);clear Fb Bb;go_wp2;go_ret;obtain⟨Fb,Bb⟩:=HH.out;have Kc:Kp (λk=>k=b) wb (wb.setCell ⟨b,1,none⟩ (.int .i64 ((r.pos:Int)+1))):=(Kp.refl _ _).setCell (by intro _;rfl) _;exact⟨rfl,⟨_,_,_,_,_,_,Fb.move Kc (λ_ _ x=>x) Fb.blk.step⟩,Bb.trans (Kc.below Fb.bp (λk x=>Fb.low (Or.inl x)))⟩
end
def Ch.isOpen(c:Int):Bool:=c==40||c==91||c==60||c==42
def Ch.aK(t:ByteArray)(it:Int->Int->Rs->Bool×Rs)(parent:Int)(r:Rs):Bool×Rs:=
 if(aC t (af t r.pos) parent {r with pos:=r.pos+1}).1 then
  if af t r.pos==40 then it r.ag.length 41 (aC t (af t r.pos) parent {r with pos:=r.pos+1}).2
  else if af t r.pos==91 then it r.ag.length 93 (aC t (af t r.pos) parent {r with pos:=r.pos+1}).2
  else if af t r.pos==60 then
   (af t (aC t (af t r.pos) parent {r with pos:=r.pos+1}).2.pos==62,
    {(aC t (af t r.pos) parent {r with pos:=r.pos+1}).2 with
     pos:=bI (af t (aC t (af t r.pos) parent {r with pos:=r.pos+1}).2.pos==62) (aC t (af t r.pos) parent {r with pos:=r.pos+1}).2.pos})
  else(true,(aC t (af t r.pos) parent {r with pos:=r.pos+1}).2)
 else(false,(aC t (af t r.pos) parent {r with pos:=r.pos+1}).2)
def Ch.an(t:ByteArray):Nat->Int->Int->Rs->Bool×Rs
 |0=>λ_ _ r=>(false,r)
 |n+1=>λself cl r=>
  if isOpen (af t r.pos)then
   if(aK t (an t n) self r).1 then an t n self cl (aK t (an t n) self r).2 else(false,(aK t (an t n) self r).2)
  else if af t r.pos==58 then
   if(transition t self r).1 then an t n self cl (transition t self r).2 else(false,(transition t self r).2)
  else if af t r.pos==94||af t r.pos==36 then
   if(Ch.block t self r).1 then an t n self cl (Ch.block t self r).2 else(false,(Ch.block t self r).2)
  else(af t r.pos==cl,{r with pos:=bI (af t r.pos==cl) r.pos})
def Ch.Ok(t:ByteArray)(r:Rs):Prop:=Bd r/\r.pos<=t.size
theorem Ch.ix{t:ByteArray}{r:Rs}(self:Int)(hp:r.pos<t.size)(h:Ok t r):Ok t (transition t self r).2/\r.pos<(transition t self r).2.pos:=by
 obtain⟨⟨d1,d2,d3,d4⟩,_⟩:=h;unfold transition;have n1:=sP (af t (r.pos+1)) (r.pos+1) r.uses
 split
 ·rename_i q1
  have l1:r.pos+1<t.size:=by
   rcases Nat.lt_or_ge (r.pos+1) t.size with x|x
   ·exact x
   rw[b_ x]at q1;simp[jF,bR,bx]at q1
  have hg:=sN (t:=t) (p:=r.pos+1+1) ⟨0,0,0⟩ (by omega);generalize Ch.guard t (r.pos+1+1) ⟨0,0,0⟩=gg at*;have ha:=vZ (t:=t) (cl:=62) (p:=gg.2.2) hg.2;generalize acts t 62 gg.2.2=aa at*
  split
  ·split
   ·have n2:=sP (af t aa.2.2) aa.2.2 (cF (af t (r.pos+1)) (r.pos+1) r.uses)
    have l2:=iS (t:=t) (ok:=kf (af t aa.2.2)) (p:=aa.2.2) ha.2 (λq=>by
     rcases Nat.lt_or_ge aa.2.2 t.size with x|x
     ·exact x
     rw[b_ x]at q;simp[kf,bx]at q)
    have l3:=kV (kf (af t aa.2.2)) aa.2.2
    refine⟨⟨⟨?_,?_,?_,?_⟩,l2⟩,?_⟩<;>simp only[List.length_append,List.length_cons,List.length_nil]<;>omega
   refine⟨⟨⟨?_,?_,?_,?_⟩,ha.2⟩,?_⟩<;>simp only<;>omega
  refine⟨⟨⟨?_,?_,?_,?_⟩,hg.2⟩,?_⟩<;>simp only<;>omega
 refine⟨⟨⟨?_,?_,?_,?_⟩,?_⟩,?_⟩<;>simp only<;>omega
theorem Ch.pG{t:ByteArray}{r:Rs}(self:Int)(hp:r.pos<t.size)(h:Ok t r):Ok t (Ch.block t self r).2/\r.pos<(Ch.block t self r).2.pos:=by
 obtain⟨⟨d1,d2,d3,d4⟩,_⟩:=h;have ha:=vZ (t:=t) (cl:=59) (p:=r.pos+1) (by omega);unfold Ch.block
 split
 ·refine⟨⟨⟨?_,?_,?_,?_⟩,ha.2⟩,?_⟩<;>simp only[List.length_append,List.length_cons,List.length_nil]<;>omega
 refine⟨⟨⟨?_,?_,?_,?_⟩,ha.2⟩,?_⟩<;>simp only<;>omega
theorem Ch.ku{t:ByteArray}{r:Rs}(op parent:Int)(h:Ok t r):Ok t (aC t op parent r).2/\r.pos<=(aC t op parent r).2.pos:=by
 obtain⟨⟨d1,d2,d3,d4⟩,h5⟩:=h;unfold aC
 split
 ·rename_i q
  have:=kX q
  refine⟨⟨⟨?_,?_,?_,?_⟩,?_⟩,?_⟩<;>simp only[dH,List.length_append,List.length_cons,List.length_nil]<;>omega
 exact⟨⟨⟨d1,d2,d3,d4⟩,h5⟩,Nat.le_refl _⟩
theorem Ch.iy{t:ByteArray}{r:Rs}{it:Int->Int->Rs->Bool×Rs}(hit:∀a c s,c≠0->Ok t s->Ok t (it a c s).2/\s.pos<=(it a c s).2.pos)(parent:Int)(hp:r.pos<t.size)(h:Ok t r):
 Ok t (aK t it parent r).2/\r.pos<(aK t it parent r).2.pos:=by
 obtain⟨⟨d1,d2,d3,d4⟩,h5⟩:=h;have hn:=ku (t:=t) (r:={r with pos:=r.pos+1}) (af t r.pos) parent ⟨⟨by simp only;omega,by simp only;omega,by simp only;omega,by simp only;omega⟩,by simp only;omega⟩;unfold aK;generalize aC t (af t r.pos) parent {r with pos:=r.pos+1}=s at*;obtain⟨hs,hs2⟩:=hn;simp only at hs2
 split
 ·split
  ·have:=hit r.ag.length 41 s.2 (by decide) hs;exact⟨this.1,by omega⟩
  split
  ·have:=hit r.ag.length 93 s.2 (by decide) hs;exact⟨this.1,by omega⟩
  split
  ·obtain⟨⟨e1,e2,e3,e4⟩,e5⟩:=hs
   have l2:=iS (t:=t) (ok:=af t s.2.pos==62) (p:=s.2.pos) e5 (cL (by decide));have l3:=kV (af t s.2.pos==62) s.2.pos
   refine⟨⟨⟨?_,?_,?_,?_⟩,l2⟩,?_⟩<;>simp only<;>omega
  exact⟨hs,by simp only;omega⟩
 exact⟨hs,by simp only;omega⟩
theorem Ch.iY{t:ByteArray}{p:Nat}(h:isOpen (af t p)=true):p<t.size:=by
 rcases Nat.lt_or_ge p t.size with h'|h'
 ·exact h'
 rw[b_ h']at h;simp[isOpen]at h
theorem Ch.jt{t:ByteArray}:∀(n:Nat) (self cl:Int) (r:Rs),cl≠0->Ok t r->Ok t (an t n self cl r).2/\r.pos<=(an t n self cl r).2.pos:=by
 intro n
 induction n with
 |zero=>intro self cl r _ h;exact⟨h,Nat.le_refl _⟩
 |succ n ih=>?_
 intro self cl r hcl h;simp only[an]
 split
 ·rename_i q
  have hs:=iy (λa c s hc hs=>ih a c s hc hs) self (iY q) h;generalize aK t (an t n) self r=s at*
  split
  ·have:=ih self cl s.2 hcl hs.1;exact⟨this.1,by omega⟩
  exact⟨hs.1,by simp only;omega⟩
 split
 ·rename_i q
  have hs:=ix self (cL (by decide) q) h;generalize transition t self r=s at*
  split
  ·have:=ih self cl s.2 hcl hs.1;exact⟨this.1,by omega⟩
  exact⟨hs.1,by simp only;omega⟩
 split
 ·rename_i q
  have hlt:r.pos<t.size:=by
   rcases Nat.lt_or_ge r.pos t.size with x|x
   ·exact x
   rw[b_ x]at q;simp at q
  have hs:=pG self hlt h;generalize Ch.block t self r=s at*
  split
  ·have:=ih self cl s.2 hcl hs.1;exact⟨this.1,by omega⟩
  exact⟨hs.1,by simp only;omega⟩
 obtain⟨⟨e1,e2,e3,e4⟩,e5⟩:=h;have l2:=iS (t:=t) (ok:=af t r.pos==cl) (p:=r.pos) e5 (cL hcl);have l3:=kV (af t r.pos==cl) r.pos
 refine⟨⟨⟨?_,?_,?_,?_⟩,l2⟩,?_⟩<;>simp only<;>omega
theorem aF{w:World}{base:Nat}{e:TypeId}{size:Nat}{v:Value}{n:Nat}{xs:List Value}(h:w.ownsRow base e size v n xs):∃ao cap,v= .slice ao n cap:=by
 rcases h.2 with⟨hv,rfl⟩|⟨g,cap,_,hv,_⟩
 ·exact⟨_,_,hv⟩
 exact⟨_,_,hv⟩
def P6(B b:Nat)(t:ByteArray)(m:Nat):Prop:=∀(w:World) (r:Rs) (self cl:Int),Rd w B b t r->Ok t r->cl≠0->t.size+1<=m+r.pos->
 Calls prog 156 #[.pointer (some ⟨b,0,none⟩),.int .i64 self,.int .u8 cl] w λx w'=>x= .returned (.bool (an t m self cl r).1)/\Rd w' B b t (an t m self cl r).2/\Below B w w'
section
variable (B b:Nat) (t:ByteArray)
theorem gC(m:Nat)(hit:P6 B b t m)(w:World)(r:Rs)(parent:Int)(H:Rd w B b t r)(hok:Ok t r)(hp:r.pos<t.size)(hm:t.size<=m+r.pos)(ht:t.size<=240):
 Calls prog 111 #[.pointer (some ⟨b,0,none⟩),.int .i64 parent] w λx w'=>x= .returned (.bool (aK t (an t m) parent r).1)/\Rd w' B b t (aK t (an t m) parent r).2/\Below B w w':=by
 obtain⟨sv,tv,bv,uv,lt,lb,h⟩:=H;obtain⟨⟨d1,d2,d3,d4⟩,_⟩:=hok;have hn:=ku (t:=t) (r:={r with pos:=r.pos+1}) (af t r.pos) parent ⟨⟨by simp only;omega,by simp only;omega,by simp only;omega,by simp only;omega⟩,by simp only;omega⟩;have hn2:r.pos+1<=(aC t (af t r.pos) parent {r with pos:=r.pos+1}).2.pos:=hn.2;obtain⟨ao,C5,rfl⟩:=aF h.ag
 cases q1:(aC t (af t r.pos) parent {r with pos:=r.pos+1}).1 with
 |false=>
  rw[show aK t (an t m) parent r=(false,(aC t (af t r.pos) parent {r with pos:=r.pos+1}).2)by simp[aK,q1]];have q1:=hid q1
  go_enter func111,ntmps111
  go_wp2_with fail
  refine(aV b t r.pos _ h.blk.text h.blk.pos).mono ?_;rintro x w1 ⟨rfl,n1,rfl⟩;have K1:Kp (λk=>k=b) w (w.drewN n1):=(Kp.refl _ _).drewN _;have F1:=h.move K1 (λ_ _ x=>x) (h.blk.drewN n1);have B1:Below B w (w.drewN n1):=K1.below h.bp (λk x=>h.low (Or.inl x));generalize w.drewN n1=w1 at K1 F1 B1⊢;have c1:=F1.blk.pos;have c4:=F1.blk.c4;have f1:=F1.blk.free 1;have HH:=hid (ae F1 B1);clear F1 B1 K1
  go_wp2_with fail
  obtain⟨F1,B1⟩:=HH.out;clear HH c1 c4 f1;have K2:Kp (λk=>k=b) w1 (w1.setCell ⟨b,1,none⟩ (.int .i64 ((r.pos:Int)+1))):=(Kp.refl _ _).setCell (by intro _;rfl) _;have F2:=F1.move K2 (λ_ _ x=>x) F1.blk.step;have B2:=B1.trans (K2.below F1.bp (λk x=>F1.low (Or.inl x)));generalize w1.setCell ⟨b,1,none⟩ (.int .i64 ((r.pos:Int)+1))=w2 at K2 F2 B2⊢;clear F1 B1 K2;have E:=jL B b t w2 (af t r.pos) parent {r with pos:=r.pos+1} ⟨_,_,_,_,_,_,F2⟩ ⟨by simp only;omega,by simp only;omega,by simp only;omega,by simp only;omega⟩ ht (by simp only;omega);rw[q1.out]at E;refine Calls.mono E ?_;rintro x w3 ⟨rfl,R3,B3⟩;have B4:=B2.trans B3;clear E F2 B2 B3;go_wp2;go_ret;exact⟨rfl,R3,B4⟩
 |true=>?_
 cases sT:af t r.pos==40 with
 |true=>
  rw[show aK t (an t m) parent r=an t m r.ag.length 41 (aC t (af t r.pos) parent {r with pos:=r.pos+1}).2 by simp[aK,q1,sT]];have q1:=hid q1
  go_enter func111,ntmps111
  go_wp2_with fail
  refine(aV b t r.pos _ h.blk.text h.blk.pos).mono ?_;rintro x w1 ⟨rfl,n1,rfl⟩;have K1:Kp (λk=>k=b) w (w.drewN n1):=(Kp.refl _ _).drewN _;have F1:=h.move K1 (λ_ _ x=>x) (h.blk.drewN n1);have B1:Below B w (w.drewN n1):=K1.below h.bp (λk x=>h.low (Or.inl x));generalize w.drewN n1=w1 at K1 F1 B1⊢;have c1:=F1.blk.pos;have c4:=F1.blk.c4;have f1:=F1.blk.free 1;have HH:=hid (ae F1 B1);clear F1 B1 K1
  go_wp2_with fail
  obtain⟨F1,B1⟩:=HH.out;clear HH c1 c4 f1;have K2:Kp (λk=>k=b) w1 (w1.setCell ⟨b,1,none⟩ (.int .i64 ((r.pos:Int)+1))):=(Kp.refl _ _).setCell (by intro _;rfl) _;have F2:=F1.move K2 (λ_ _ x=>x) F1.blk.step;have B2:=B1.trans (K2.below F1.bp (λk x=>F1.low (Or.inl x)));generalize w1.setCell ⟨b,1,none⟩ (.int .i64 ((r.pos:Int)+1))=w2 at K2 F2 B2⊢;clear F1 B1 K2;have E:=jL B b t w2 (af t r.pos) parent {r with pos:=r.pos+1} ⟨_,_,_,_,_,_,F2⟩ ⟨by simp only;omega,by simp only;omega,by simp only;omega,by simp only;omega⟩ ht (by simp only;omega);rw[q1.out]at E;refine Calls.mono E ?_;rintro x w3 ⟨rfl,R3,B3⟩;have B4:=B2.trans B3;clear E F2 B2 B3
  go_wp2_with fail
  refine(hit w3 _ _ 41 R3 hn.1 (by decide) (by omega)).mono ?_;rintro x w5 ⟨rfl,R5,B5⟩;go_wp2;go_ret;exact⟨rfl,R5,B4.trans B5⟩
 |false=>?_
 cases xH:af t r.pos==91 with
 |true=>
  rw[show aK t (an t m) parent r=an t m r.ag.length 93 (aC t (af t r.pos) parent {r with pos:=r.pos+1}).2 by simp[aK,q1,sT,xH]];have q1:=hid q1
  go_enter func111,ntmps111
  go_wp2_with fail
  refine(aV b t r.pos _ h.blk.text h.blk.pos).mono ?_;rintro x w1 ⟨rfl,n1,rfl⟩;have K1:Kp (λk=>k=b) w (w.drewN n1):=(Kp.refl _ _).drewN _;have F1:=h.move K1 (λ_ _ x=>x) (h.blk.drewN n1);have B1:Below B w (w.drewN n1):=K1.below h.bp (λk x=>h.low (Or.inl x));generalize w.drewN n1=w1 at K1 F1 B1⊢;have c1:=F1.blk.pos;have c4:=F1.blk.c4;have f1:=F1.blk.free 1;have HH:=hid (ae F1 B1);clear F1 B1 K1
  go_wp2_with fail
  obtain⟨F1,B1⟩:=HH.out;clear HH c1 c4 f1;have K2:Kp (λk=>k=b) w1 (w1.setCell ⟨b,1,none⟩ (.int .i64 ((r.pos:Int)+1))):=(Kp.refl _ _).setCell (by intro _;rfl) _;have F2:=F1.move K2 (λ_ _ x=>x) F1.blk.step;have B2:=B1.trans (K2.below F1.bp (λk x=>F1.low (Or.inl x)));generalize w1.setCell ⟨b,1,none⟩ (.int .i64 ((r.pos:Int)+1))=w2 at K2 F2 B2⊢;clear F1 B1 K2;have E:=jL B b t w2 (af t r.pos) parent {r with pos:=r.pos+1} ⟨_,_,_,_,_,_,F2⟩ ⟨by simp only;omega,by simp only;omega,by simp only;omega,by simp only;omega⟩ ht (by simp only;omega);rw[q1.out]at E;refine Calls.mono E ?_;rintro x w3 ⟨rfl,R3,B3⟩;have B4:=B2.trans B3;clear E F2 B2 B3
  go_wp2_with fail
  refine(hit w3 _ _ 93 R3 hn.1 (by decide) (by omega)).mono ?_;rintro x w5 ⟨rfl,R5,B5⟩;go_wp2;go_ret;exact⟨rfl,R5,B4.trans B5⟩
 |false=>?_
 cases MI:af t r.pos==60 with
 |true=>
  rw[show aK t (an t m) parent r=(af t (aC t (af t r.pos) parent {r with pos:=r.pos+1}).2.pos==62,{(aC t (af t r.pos) parent {r with pos:=r.pos+1}).2 with pos:=bI (af t (aC t (af t r.pos) parent {r with pos:=r.pos+1}).2.pos==62) (aC t (af t r.pos) parent {r with pos:=r.pos+1}).2.pos})by simp[aK,q1,sT,xH,MI]];have q1:=hid q1
  go_enter func111,ntmps111
  go_wp2_with fail
  refine(aV b t r.pos _ h.blk.text h.blk.pos).mono ?_;rintro x w1 ⟨rfl,n1,rfl⟩;have K1:Kp (λk=>k=b) w (w.drewN n1):=(Kp.refl _ _).drewN _;have F1:=h.move K1 (λ_ _ x=>x) (h.blk.drewN n1);have B1:Below B w (w.drewN n1):=K1.below h.bp (λk x=>h.low (Or.inl x));generalize w.drewN n1=w1 at K1 F1 B1⊢;have c1:=F1.blk.pos;have c4:=F1.blk.c4;have f1:=F1.blk.free 1;have HH:=hid (ae F1 B1);clear F1 B1 K1
  go_wp2_with fail
  obtain⟨F1,B1⟩:=HH.out;clear HH c1 c4 f1;have K2:Kp (λk=>k=b) w1 (w1.setCell ⟨b,1,none⟩ (.int .i64 ((r.pos:Int)+1))):=(Kp.refl _ _).setCell (by intro _;rfl) _;have F2:=F1.move K2 (λ_ _ x=>x) F1.blk.step;have B2:=B1.trans (K2.below F1.bp (λk x=>F1.low (Or.inl x)));generalize w1.setCell ⟨b,1,none⟩ (.int .i64 ((r.pos:Int)+1))=w2 at K2 F2 B2⊢;clear F1 B1 K2;have E:=jL B b t w2 (af t r.pos) parent {r with pos:=r.pos+1} ⟨_,_,_,_,_,_,F2⟩ ⟨by simp only;omega,by simp only;omega,by simp only;omega,by simp only;omega⟩ ht (by simp only;omega);rw[q1.out]at E;refine Calls.mono E ?_;rintro x w3 ⟨rfl,R3,B3⟩;have B4:=B2.trans B3;clear E F2 B2 B3;obtain⟨sv3,tv3,bv3,uv3,lt3,lb3,F3⟩:=R3;have hb3:=hn.1.2
  go_wp2_with fail
  refine(pF b t (aC t (af t r.pos) parent {r with pos:=r.pos+1}).2.pos (.int .i64 0) (.int .i64 0) sv3 tv3 bv3 uv3 w3 62 F3.blk (by omega)).mono ?_;rintro x w5 ⟨rfl,R5,K5⟩;have F5:=F3.move K5 (λ_ _ x=>x) R5;have B5:=B4.trans (K5.below F3.bp (λk x=>F3.low (Or.inl x)));go_wp2;go_ret;exact⟨rfl,⟨_,_,_,_,_,_,F5⟩,B5⟩
 |false=>?_
 rw[show aK t (an t m) parent r=(true,(aC t (af t r.pos) parent {r with pos:=r.pos+1}).2)by simp[aK,q1,sT,xH,MI]];have q1:=hid q1
 go_enter func111,ntmps111
 go_wp2_with fail
 refine(aV b t r.pos _ h.blk.text h.blk.pos).mono ?_;rintro x w1 ⟨rfl,n1,rfl⟩;have K1:Kp (λk=>k=b) w (w.drewN n1):=(Kp.refl _ _).drewN _;have F1:=h.move K1 (λ_ _ x=>x) (h.blk.drewN n1);have B1:Below B w (w.drewN n1):=K1.below h.bp (λk x=>h.low (Or.inl x));generalize w.drewN n1=w1 at K1 F1 B1⊢;have c1:=F1.blk.pos;have c4:=F1.blk.c4;have f1:=F1.blk.free 1;have HH:=hid (ae F1 B1);clear F1 B1 K1
 go_wp2_with fail
 obtain⟨F1,B1⟩:=HH.out;clear HH c1 c4 f1;have K2:Kp (λk=>k=b) w1 (w1.setCell ⟨b,1,none⟩ (.int .i64 ((r.pos:Int)+1))):=(Kp.refl _ _).setCell (by intro _;rfl) _;have F2:=F1.move K2 (λ_ _ x=>x) F1.blk.step;have B2:=B1.trans (K2.below F1.bp (λk x=>F1.low (Or.inl x)));generalize w1.setCell ⟨b,1,none⟩ (.int .i64 ((r.pos:Int)+1))=w2 at K2 F2 B2⊢;clear F1 B1 K2;have E:=jL B b t w2 (af t r.pos) parent {r with pos:=r.pos+1} ⟨_,_,_,_,_,_,F2⟩ ⟨by simp only;omega,by simp only;omega,by simp only;omega,by simp only;omega⟩ ht (by simp only;omega);rw[q1.out]at E;refine Calls.mono E ?_;rintro x w3 ⟨rfl,R3,B3⟩;have B4:=B2.trans B3;clear E F2 B2 B3;go_wp2;go_ret;exact⟨rfl,R3,B4⟩
end
theorem uo(B b:Nat)(t:ByteArray)(ht:t.size<=240)(m:Nat):P6 B b t m:=by
 induction m using Nat.strongRecOn with
 |_ m ih=>
 intro w r self cl H hok hcl hm
 go_enter func156,ntmps156
 go_wp2_with fail
 go_loopg [] m (λk wr=>∃r1,Hid (an t m self cl r=an t k self cl r1)/\Ok t r1/\(t.size+1<=k+r1.pos/\k<=m)/\Rd wr B b t r1/\Below B w wr)
 case atStart=>exact⟨r,hid rfl,hok,⟨hm,Nat.le_refl _⟩,H,Below.refl _ _⟩
 case round=>
  obtain⟨r1,HE,ho1,⟨hk,hkm⟩,⟨sv,tv,bv,uv,lt,lb,h1⟩,B1⟩:=hrel;have hp1:=ho1.2
  obtain⟨k,rfl⟩:∃k,gk=k+1:=⟨gk-1,by omega⟩
  clear H hok hm
  cases sT:af t r1.pos==40 with
  |true=>
   have hlt:r1.pos<t.size:=cL (c:=40) (by decide) sT;have hs:=iy (λa c s hc hs=>jt k a c s hc hs) self hlt ho1
   cases q9:(aK t (an t k) self r1).1 with
   |false=>
    have HF:=hid (HE.out.trans (show an t (k+1) self cl r1=(false,(aK t (an t k) self r1).2)by simp[an,isOpen,sT,q9]))
    go_wp2_with fail
    refine(aV b t r1.pos _ h1.blk.text h1.blk.pos).mono ?_;rintro x w1 ⟨rfl,n1,rfl⟩;have K2:Kp (λk=>k=b) wr (wr.drewN n1):=(Kp.refl _ _).drewN _;have F2:=h1.move K2 (λ_ _ x=>x) (h1.blk.drewN n1);have B2:Below B w (wr.drewN n1):=B1.trans (K2.below h1.bp (λk x=>h1.low (Or.inl x)));generalize wr.drewN n1=w2 at K2 F2 B2⊢;clear K2 h1 B1
    go_wp2_with fail
    have E:=gC B b t k (ih k (by omega)) w2 r1 self ⟨_,_,_,_,_,_,F2⟩ ho1 hlt (by omega) ht;rw[q9]at E;refine Calls.mono E ?_;rintro x w3 ⟨rfl,R3,B3⟩;have B4:=B2.trans B3;clear E F2 B2 B3;go_wp2;go_ret;rw[HF.out];exact⟨rfl,R3,B4⟩
   |true=>?_
   have HF:=hid (HE.out.trans (show an t (k+1) self cl r1=an t k self cl (aK t (an t k) self r1).2 by simp[an,isOpen,sT,q9]))
   go_wp2_with fail
   refine(aV b t r1.pos _ h1.blk.text h1.blk.pos).mono ?_;rintro x w1 ⟨rfl,n1,rfl⟩;have K2:Kp (λk=>k=b) wr (wr.drewN n1):=(Kp.refl _ _).drewN _;have F2:=h1.move K2 (λ_ _ x=>x) (h1.blk.drewN n1);have B2:Below B w (wr.drewN n1):=B1.trans (K2.below h1.bp (λk x=>h1.low (Or.inl x)));generalize wr.drewN n1=w2 at K2 F2 B2⊢;clear K2 h1 B1
   go_wp2_with fail
   have E:=gC B b t k (ih k (by omega)) w2 r1 self ⟨_,_,_,_,_,_,F2⟩ ho1 hlt (by omega) ht;rw[q9]at E;refine Calls.mono E ?_;rintro x w3 ⟨rfl,R3,B3⟩;have B4:=B2.trans B3;clear E F2 B2 B3;go_wp2
   go_roundg k
   case measure=>omega
   case rel=>exact⟨_,HF,hs.1,by omega,R3,B4⟩
  |false=>?_
  cases xH:af t r1.pos==91 with
  |true=>
   have hlt:r1.pos<t.size:=cL (c:=91) (by decide) xH;have hs:=iy (λa c s hc hs=>jt k a c s hc hs) self hlt ho1
   cases q9:(aK t (an t k) self r1).1 with
   |false=>
    have HF:=hid (HE.out.trans (show an t (k+1) self cl r1=(false,(aK t (an t k) self r1).2)by simp[an,isOpen,sT,xH,q9]))
    go_wp2_with fail
    refine(aV b t r1.pos _ h1.blk.text h1.blk.pos).mono ?_;rintro x w1 ⟨rfl,n1,rfl⟩;have K2:Kp (λk=>k=b) wr (wr.drewN n1):=(Kp.refl _ _).drewN _;have F2:=h1.move K2 (λ_ _ x=>x) (h1.blk.drewN n1);have B2:Below B w (wr.drewN n1):=B1.trans (K2.below h1.bp (λk x=>h1.low (Or.inl x)));generalize wr.drewN n1=w2 at K2 F2 B2⊢;clear K2 h1 B1
    go_wp2_with fail
    have E:=gC B b t k (ih k (by omega)) w2 r1 self ⟨_,_,_,_,_,_,F2⟩ ho1 hlt (by omega) ht;rw[q9]at E;refine Calls.mono E ?_;rintro x w3 ⟨rfl,R3,B3⟩;have B4:=B2.trans B3;clear E F2 B2 B3;go_wp2;go_ret;rw[HF.out];exact⟨rfl,R3,B4⟩
   |true=>?_
   have HF:=hid (HE.out.trans (show an t (k+1) self cl r1=an t k self cl (aK t (an t k) self r1).2 by simp[an,isOpen,sT,xH,q9]))
   go_wp2_with fail
   refine(aV b t r1.pos _ h1.blk.text h1.blk.pos).mono ?_;rintro x w1 ⟨rfl,n1,rfl⟩;have K2:Kp (λk=>k=b) wr (wr.drewN n1):=(Kp.refl _ _).drewN _;have F2:=h1.move K2 (λ_ _ x=>x) (h1.blk.drewN n1);have B2:Below B w (wr.drewN n1):=B1.trans (K2.below h1.bp (λk x=>h1.low (Or.inl x)));generalize wr.drewN n1=w2 at K2 F2 B2⊢;clear K2 h1 B1
   go_wp2_with fail
   have E:=gC B b t k (ih k (by omega)) w2 r1 self ⟨_,_,_,_,_,_,F2⟩ ho1 hlt (by omega) ht;rw[q9]at E;refine Calls.mono E ?_;rintro x w3 ⟨rfl,R3,B3⟩;have B4:=B2.trans B3;clear E F2 B2 B3;go_wp2
   go_roundg k
   case measure=>omega
   case rel=>exact⟨_,HF,hs.1,by omega,R3,B4⟩
  |false=>?_
  cases MI:af t r1.pos==60 with
  |true=>
   have hlt:r1.pos<t.size:=cL (c:=60) (by decide) MI;have hs:=iy (λa c s hc hs=>jt k a c s hc hs) self hlt ho1
   cases q9:(aK t (an t k) self r1).1 with
   |false=>
    have HF:=hid (HE.out.trans (show an t (k+1) self cl r1=(false,(aK t (an t k) self r1).2)by simp[an,isOpen,sT,xH,MI,q9]))
    go_wp2_with fail
    refine(aV b t r1.pos _ h1.blk.text h1.blk.pos).mono ?_;rintro x w1 ⟨rfl,n1,rfl⟩;have K2:Kp (λk=>k=b) wr (wr.drewN n1):=(Kp.refl _ _).drewN _;have F2:=h1.move K2 (λ_ _ x=>x) (h1.blk.drewN n1);have B2:Below B w (wr.drewN n1):=B1.trans (K2.below h1.bp (λk x=>h1.low (Or.inl x)));generalize wr.drewN n1=w2 at K2 F2 B2⊢;clear K2 h1 B1
    go_wp2_with fail
    have E:=gC B b t k (ih k (by omega)) w2 r1 self ⟨_,_,_,_,_,_,F2⟩ ho1 hlt (by omega) ht;rw[q9]at E;refine Calls.mono E ?_;rintro x w3 ⟨rfl,R3,B3⟩;have B4:=B2.trans B3;clear E F2 B2 B3;go_wp2;go_ret;rw[HF.out];exact⟨rfl,R3,B4⟩
   |true=>?_
   have HF:=hid (HE.out.trans (show an t (k+1) self cl r1=an t k self cl (aK t (an t k) self r1).2 by simp[an,isOpen,sT,xH,MI,q9]))
   go_wp2_with fail
   refine(aV b t r1.pos _ h1.blk.text h1.blk.pos).mono ?_;rintro x w1 ⟨rfl,n1,rfl⟩;have K2:Kp (λk=>k=b) wr (wr.drewN n1):=(Kp.refl _ _).drewN _;have F2:=h1.move K2 (λ_ _ x=>x) (h1.blk.drewN n1);have B2:Below B w (wr.drewN n1):=B1.trans (K2.below h1.bp (λk x=>h1.low (Or.inl x)));generalize wr.drewN n1=w2 at K2 F2 B2⊢;clear K2 h1 B1
   go_wp2_with fail
   have E:=gC B b t k (ih k (by omega)) w2 r1 self ⟨_,_,_,_,_,_,F2⟩ ho1 hlt (by omega) ht;rw[q9]at E;refine Calls.mono E ?_;rintro x w3 ⟨rfl,R3,B3⟩;have B4:=B2.trans B3;clear E F2 B2 B3;go_wp2
   go_roundg k
   case measure=>omega
   case rel=>exact⟨_,HF,hs.1,by omega,R3,B4⟩
  |false=>?_
  cases YR:af t r1.pos==42 with
  |true=>
   have hlt:r1.pos<t.size:=cL (c:=42) (by decide) YR;have hs:=iy (λa c s hc hs=>jt k a c s hc hs) self hlt ho1
   cases q9:(aK t (an t k) self r1).1 with
   |false=>
    have HF:=hid (HE.out.trans (show an t (k+1) self cl r1=(false,(aK t (an t k) self r1).2)by simp[an,isOpen,sT,xH,MI,YR,q9]))
    go_wp2_with fail
    refine(aV b t r1.pos _ h1.blk.text h1.blk.pos).mono ?_;rintro x w1 ⟨rfl,n1,rfl⟩;have K2:Kp (λk=>k=b) wr (wr.drewN n1):=(Kp.refl _ _).drewN _;have F2:=h1.move K2 (λ_ _ x=>x) (h1.blk.drewN n1);have B2:Below B w (wr.drewN n1):=B1.trans (K2.below h1.bp (λk x=>h1.low (Or.inl x)));generalize wr.drewN n1=w2 at K2 F2 B2⊢;clear K2 h1 B1
    go_wp2_with fail
    have E:=gC B b t k (ih k (by omega)) w2 r1 self ⟨_,_,_,_,_,_,F2⟩ ho1 hlt (by omega) ht;rw[q9]at E;refine Calls.mono E ?_;rintro x w3 ⟨rfl,R3,B3⟩;have B4:=B2.trans B3;clear E F2 B2 B3;go_wp2;go_ret;rw[HF.out];exact⟨rfl,R3,B4⟩
   |true=>?_
   have HF:=hid (HE.out.trans (show an t (k+1) self cl r1=an t k self cl (aK t (an t k) self r1).2 by simp[an,isOpen,sT,xH,MI,YR,q9]))
   go_wp2_with fail
   refine(aV b t r1.pos _ h1.blk.text h1.blk.pos).mono ?_;rintro x w1 ⟨rfl,n1,rfl⟩;have K2:Kp (λk=>k=b) wr (wr.drewN n1):=(Kp.refl _ _).drewN _;have F2:=h1.move K2 (λ_ _ x=>x) (h1.blk.drewN n1);have B2:Below B w (wr.drewN n1):=B1.trans (K2.below h1.bp (λk x=>h1.low (Or.inl x)));generalize wr.drewN n1=w2 at K2 F2 B2⊢;clear K2 h1 B1
   go_wp2_with fail
   have E:=gC B b t k (ih k (by omega)) w2 r1 self ⟨_,_,_,_,_,_,F2⟩ ho1 hlt (by omega) ht;rw[q9]at E;refine Calls.mono E ?_;rintro x w3 ⟨rfl,R3,B3⟩;have B4:=B2.trans B3;clear E F2 B2 B3;go_wp2
   go_roundg k
   case measure=>omega
   case rel=>exact⟨_,HF,hs.1,by omega,R3,B4⟩
  |false=>?_
  cases U9:af t r1.pos==58 with
  |true=>
   have hlt:r1.pos<t.size:=cL (c:=58) (by decide) U9;have hs:=ix self hlt ho1
   cases q9:(transition t self r1).1 with
   |false=>
    have HF:=hid (HE.out.trans (show an t (k+1) self cl r1=(false,(transition t self r1).2)by simp[an,isOpen,sT,xH,MI,YR,U9,q9]))
    go_wp2_with fail
    refine(aV b t r1.pos _ h1.blk.text h1.blk.pos).mono ?_;rintro x w1 ⟨rfl,n1,rfl⟩;have K2:Kp (λk=>k=b) wr (wr.drewN n1):=(Kp.refl _ _).drewN _;have F2:=h1.move K2 (λ_ _ x=>x) (h1.blk.drewN n1);have B2:Below B w (wr.drewN n1):=B1.trans (K2.below h1.bp (λk x=>h1.low (Or.inl x)));generalize wr.drewN n1=w2 at K2 F2 B2⊢;clear K2 h1 B1
    go_wp2_with fail
    have E:=sR B b t w2 self r1 ⟨_,_,_,_,_,_,F2⟩ ho1.1 hlt ht;rw[q9]at E;refine Calls.mono E ?_;rintro x w3 ⟨rfl,R3,B3⟩;have B4:=B2.trans B3;clear E F2 B2 B3;go_wp2;go_ret;rw[HF.out];exact⟨rfl,R3,B4⟩
   |true=>?_
   have HF:=hid (HE.out.trans (show an t (k+1) self cl r1=an t k self cl (transition t self r1).2 by simp[an,isOpen,sT,xH,MI,YR,U9,q9]))
   go_wp2_with fail
   refine(aV b t r1.pos _ h1.blk.text h1.blk.pos).mono ?_;rintro x w1 ⟨rfl,n1,rfl⟩;have K2:Kp (λk=>k=b) wr (wr.drewN n1):=(Kp.refl _ _).drewN _;have F2:=h1.move K2 (λ_ _ x=>x) (h1.blk.drewN n1);have B2:Below B w (wr.drewN n1):=B1.trans (K2.below h1.bp (λk x=>h1.low (Or.inl x)));generalize wr.drewN n1=w2 at K2 F2 B2⊢;clear K2 h1 B1
   go_wp2_with fail
   have E:=sR B b t w2 self r1 ⟨_,_,_,_,_,_,F2⟩ ho1.1 hlt ht;rw[q9]at E;refine Calls.mono E ?_;rintro x w3 ⟨rfl,R3,B3⟩;have B4:=B2.trans B3;clear E F2 B2 B3;go_wp2
   go_roundg k
   case measure=>omega
   case rel=>exact⟨_,HF,hs.1,by omega,R3,B4⟩
  |false=>?_
  cases q94:af t r1.pos==94 with
  |true=>
   have hlt:r1.pos<t.size:=cL (c:=94) (by decide) q94;have hs:=pG self hlt ho1
   cases q9:(Ch.block t self r1).1 with
   |false=>
    have HF:=hid (HE.out.trans (show an t (k+1) self cl r1=(false,(Ch.block t self r1).2)by simp[an,isOpen,sT,xH,MI,YR,U9,q94,q9]))
    go_wp2_with fail
    refine(aV b t r1.pos _ h1.blk.text h1.blk.pos).mono ?_;rintro x w1 ⟨rfl,n1,rfl⟩;have K2:Kp (λk=>k=b) wr (wr.drewN n1):=(Kp.refl _ _).drewN _;have F2:=h1.move K2 (λ_ _ x=>x) (h1.blk.drewN n1);have B2:Below B w (wr.drewN n1):=B1.trans (K2.below h1.bp (λk x=>h1.low (Or.inl x)));generalize wr.drewN n1=w2 at K2 F2 B2⊢;clear K2 h1 B1
    go_wp2_with fail
    have E:=um B b t w2 self r1 ⟨_,_,_,_,_,_,F2⟩ ho1.1 hlt ht;rw[q9]at E;refine Calls.mono E ?_;rintro x w3 ⟨rfl,R3,B3⟩;have B4:=B2.trans B3;clear E F2 B2 B3;go_wp2;go_ret;rw[HF.out];exact⟨rfl,R3,B4⟩
   |true=>?_
   have HF:=hid (HE.out.trans (show an t (k+1) self cl r1=an t k self cl (Ch.block t self r1).2 by simp[an,isOpen,sT,xH,MI,YR,U9,q94,q9]))
   go_wp2_with fail
   refine(aV b t r1.pos _ h1.blk.text h1.blk.pos).mono ?_;rintro x w1 ⟨rfl,n1,rfl⟩;have K2:Kp (λk=>k=b) wr (wr.drewN n1):=(Kp.refl _ _).drewN _;have F2:=h1.move K2 (λ_ _ x=>x) (h1.blk.drewN n1);have B2:Below B w (wr.drewN n1):=B1.trans (K2.below h1.bp (λk x=>h1.low (Or.inl x)));generalize wr.drewN n1=w2 at K2 F2 B2⊢;clear K2 h1 B1
   go_wp2_with fail
   have E:=um B b t w2 self r1 ⟨_,_,_,_,_,_,F2⟩ ho1.1 hlt ht;rw[q9]at E;refine Calls.mono E ?_;rintro x w3 ⟨rfl,R3,B3⟩;have B4:=B2.trans B3;clear E F2 B2 B3;go_wp2
   go_roundg k
   case measure=>omega
   case rel=>exact⟨_,HF,hs.1,by omega,R3,B4⟩
  |false=>?_
  cases q36:af t r1.pos==36 with
  |true=>
   have hlt:r1.pos<t.size:=cL (c:=36) (by decide) q36;have hs:=pG self hlt ho1
   cases q9:(Ch.block t self r1).1 with
   |false=>
    have HF:=hid (HE.out.trans (show an t (k+1) self cl r1=(false,(Ch.block t self r1).2)by simp[an,isOpen,sT,xH,MI,YR,U9,q94,q36,q9]))
    go_wp2_with fail
    refine(aV b t r1.pos _ h1.blk.text h1.blk.pos).mono ?_;rintro x w1 ⟨rfl,n1,rfl⟩;have K2:Kp (λk=>k=b) wr (wr.drewN n1):=(Kp.refl _ _).drewN _;have F2:=h1.move K2 (λ_ _ x=>x) (h1.blk.drewN n1);have B2:Below B w (wr.drewN n1):=B1.trans (K2.below h1.bp (λk x=>h1.low (Or.inl x)));generalize wr.drewN n1=w2 at K2 F2 B2⊢;clear K2 h1 B1
    go_wp2_with fail
    have E:=um B b t w2 self r1 ⟨_,_,_,_,_,_,F2⟩ ho1.1 hlt ht;rw[q9]at E;refine Calls.mono E ?_;rintro x w3 ⟨rfl,R3,B3⟩;have B4:=B2.trans B3;clear E F2 B2 B3;go_wp2;go_ret;rw[HF.out];exact⟨rfl,R3,B4⟩
   |true=>?_
   have HF:=hid (HE.out.trans (show an t (k+1) self cl r1=an t k self cl (Ch.block t self r1).2 by simp[an,isOpen,sT,xH,MI,YR,U9,q94,q36,q9]))
   go_wp2_with fail
   refine(aV b t r1.pos _ h1.blk.text h1.blk.pos).mono ?_;rintro x w1 ⟨rfl,n1,rfl⟩;have K2:Kp (λk=>k=b) wr (wr.drewN n1):=(Kp.refl _ _).drewN _;have F2:=h1.move K2 (λ_ _ x=>x) (h1.blk.drewN n1);have B2:Below B w (wr.drewN n1):=B1.trans (K2.below h1.bp (λk x=>h1.low (Or.inl x)));generalize wr.drewN n1=w2 at K2 F2 B2⊢;clear K2 h1 B1
   go_wp2_with fail
   have E:=um B b t w2 self r1 ⟨_,_,_,_,_,_,F2⟩ ho1.1 hlt ht;rw[q9]at E;refine Calls.mono E ?_;rintro x w3 ⟨rfl,R3,B3⟩;have B4:=B2.trans B3;clear E F2 B2 B3;go_wp2
   go_roundg k
   case measure=>omega
   case rel=>exact⟨_,HF,hs.1,by omega,R3,B4⟩
  |false=>?_
  have HF:=hid (HE.out.trans (show an t (k+1) self cl r1=(af t r1.pos==cl,{r1 with pos:=bI (af t r1.pos==cl) r1.pos})by simp[an,isOpen,sT,xH,MI,YR,U9,q94,q36]))
  go_wp2_with fail
  refine(aV b t r1.pos _ h1.blk.text h1.blk.pos).mono ?_;rintro x w1 ⟨rfl,n1,rfl⟩;have K2:Kp (λk=>k=b) wr (wr.drewN n1):=(Kp.refl _ _).drewN _;have F2:=h1.move K2 (λ_ _ x=>x) (h1.blk.drewN n1);have B2:Below B w (wr.drewN n1):=B1.trans (K2.below h1.bp (λk x=>h1.low (Or.inl x)));generalize wr.drewN n1=w2 at K2 F2 B2⊢;clear K2 h1 B1
  go_wp2_with fail
  refine(pF b t r1.pos (.int .i64 0) (.int .i64 0) sv tv bv uv w2 cl F2.blk (by have:=ho1.2;omega)).mono ?_;rintro x w5 ⟨rfl,R5,K5⟩;have F5:=F2.move K5 (λ_ _ x=>x) R5;have B5:=B2.trans (K5.below F2.bp (λk x=>F2.low (Or.inl x)));clear F2 B2 R5 K5;go_wp2;go_ret;rw[HF.out];exact⟨rfl,⟨_,_,_,_,_,_,F5⟩,B5⟩
end Go.Proofs.YtnlbchmfcebeeaaGreat
