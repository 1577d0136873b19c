import Derived.Test.YtnlbchmfcebeeaaGreatTA2
import Derived.Deep.Cut
set_option maxHeartbeats 12800000
set_option maxRecDepth 100000
namespace Go.Proofs.YtnlbchmfcebeeaaGreat
open Go.Proofs.Tryz Ch
open Go.RowKit
theorem Rk:(prog.info? 209).map (λi=>(i.zero,i.size,i.bytes))=some (some (.agg #[.int .i64 0,.int .u8 0,.int .u8 0,.int .u8 0,.int .i64 0,.slice none 0 0,.int .u8 0]),7,64):=by kernel_rfl
theorem ew{w:World}{base:Nat}{e:TypeId}{size:Nat}{v:Value}{n:Nat}{xs:List Value}(h:w.ownsRow base e size v n xs):∃ao m cap,v= .slice ao m cap:=by
 rcases h.2 with⟨h,_⟩|⟨g,cap,_,h,_⟩
 ·exact⟨_,_,_,h⟩
 exact⟨_,_,_,h⟩
theorem gB(w:World)(cs:List Value)(T:TypeId):∀j u,cs[j]? =some u->(w.alloc (.cells cs.toArray T)).cell? ((⟨w.heap.size,0,none⟩:Addr).add j)=some u:=by
 intro j u hj
 by_cases h0:j=0
 ·subst h0;simp[Addr.add,hj]
 simp[Addr.add,h0,hj]
def Ch.transition(t:ByteArray)(self:Int)(r:Rs):Bool×Rs:=
 if jF (af t (r.pos+1))then
  if(Ch.guard t (r.pos+1+1) ⟨0,0,0⟩).1 then
   if(acts t 62 (Ch.guard t (r.pos+1+1) ⟨0,0,0⟩).2.2).1 then
    (kf (af t (acts t 62 (Ch.guard t (r.pos+1+1) ⟨0,0,0⟩).2.2).2.2),
     {r with pos:=bI (kf (af t (acts t 62 (Ch.guard t (r.pos+1+1) ⟨0,0,0⟩).2.2).2.2)) (acts t 62 (Ch.guard t (r.pos+1+1) ⟨0,0,0⟩).2.2).2.2
             bG:=r.bG++[⟨self,af t (r.pos+1),(Ch.guard t (r.pos+1+1) ⟨0,0,0⟩).2.1,(acts t 62 (Ch.guard t (r.pos+1+1) ⟨0,0,0⟩).2.2).2.1,af t (acts t 62 (Ch.guard t (r.pos+1+1) ⟨0,0,0⟩).2.2).2.2⟩]
             uses:=cF (af t (acts t 62 (Ch.guard t (r.pos+1+1) ⟨0,0,0⟩).2.2).2.2) (acts t 62 (Ch.guard t (r.pos+1+1) ⟨0,0,0⟩).2.2).2.2 (cF (af t (r.pos+1)) (r.pos+1) r.uses)})
   else(false,{r with pos:=(acts t 62 (Ch.guard t (r.pos+1+1) ⟨0,0,0⟩).2.2).2.2,uses:=cF (af t (r.pos+1)) (r.pos+1) r.uses})
  else(false,{r with pos:=(Ch.guard t (r.pos+1+1) ⟨0,0,0⟩).2.2,uses:=cF (af t (r.pos+1)) (r.pos+1) r.uses})
 else(false,{r with pos:=r.pos+1,uses:=cF (af t (r.pos+1)) (r.pos+1) r.uses})
theorem Ch.sP(c:Int)(p:Nat)(us:List Us):(cF c p us).length<=us.length+1:=by unfold cF;split<;>simp
section
variable (B b:Nat) (t:ByteArray) (w:World)
theorem sR(self:Int)(r:Rs)(H:Rd w B b t r)(hd:Bd r)(hp:r.pos<t.size)(ht:t.size<=240):
 Calls prog 214 #[.pointer (some ⟨b,0,none⟩),.int .i64 self] w λx w'=>x= .returned (.bool (transition t self r).1)/\Rd w' B b t (transition t self r).2/\Below B w w':=by
 obtain⟨sv,tv,bv,uv,lt,lb,h⟩:=H;obtain⟨d1,d2,d3,d4⟩:=hd;have hs:=h.blk.step;have c1:=h.blk.pos;have f1:=h.blk.free 1;have hl0:=h.bp
 cases q1:jF (af t (r.pos+1))with
 |false=>
  rw[show transition t self r=(false,{r with pos:=r.pos+1,uses:=cF (af t (r.pos+1)) (r.pos+1) r.uses})by simp[transition,q1]];have q1:=hid q1
  go_enter func214,ntmps214
  go_wp2_with fail
  refine(aV b t (r.pos+1) _ hs.text hs.pos).mono ?_;rintro x w1 ⟨rfl,n1,rfl⟩;have R1:=hs.drewN n1;have K1:Kp (λk=>k=b) w ((w.setCell ⟨b,1,none⟩ (.int .i64 ((r.pos:Int)+1))).drewN n1):=((Kp.refl _ _).setCell (by intro _;rfl) _).drewN _;generalize (w.setCell ⟨b,1,none⟩ (.int .i64 ((r.pos:Int)+1))).drewN n1=w1 at R1 K1⊢;clear hs c1 f1
  go_wp2_with fail
  have T2:om (w1.alloc (.cells #[.int .i64 self,.int .u8 (af t (r.pos+1)),.int .u8 0,.int .u8 0,.int .i64 0,.slice none 0 0,.int .u8 0] 209)) w1.heap.size self (af t (r.pos+1)) ⟨0,0,0⟩ (.slice none 0 0) 0:=heap_alloc_new w1 _;have R2:=R1.alloc (.cells #[.int .i64 self,.int .u8 (af t (r.pos+1)),.int .u8 0,.int .u8 0,.int .i64 0,.slice none 0 0,.int .u8 0] 209);have K2:=K1.alloc (.cells #[.int .i64 self,.int .u8 (af t (r.pos+1)),.int .u8 0,.int .u8 0,.int .i64 0,.slice none 0 0,.int .u8 0] 209);have hsz:=K1.size;generalize w1.alloc (.cells #[.int .i64 self,.int .u8 (af t (r.pos+1)),.int .u8 0,.int .u8 0,.int .i64 0,.slice none 0 0,.int .u8 0] 209)=w2 at T2 R2 K2⊢;generalize w1.heap.size=tb at T2 hsz⊢;clear R1 K1;have O2:=K2.owns h.uses (λk hk e=>by subst e;exact own_ne h.uses h.blk (by decide) hk);have E:=oh B b t (r.pos+1) (.int .i64 0) (.int .i64 0) sv tv bv uv w2 r.uses R2 O2 (by have:=K2.size;omega) (by omega) (by omega);rw[q1.out]at E;refine Calls.mono E ?_;rintro x w3 ⟨rfl,Rl,R3,O3,Kx⟩;have hne:=T2.ne R2;have T3:=T2.keep Kx (λx=>by rcases x with x|x;exact hne x;exact own_ne O2 T2 (by decide) x);have K3:Kp (λk=>k=b\/uv.ownBlock=some k) w w3:=(K2.mono (λ_ _ x=>Or.inl x)).trans Kx;clear E Kx O2 T2 R2 K2;go_wp2;go_ret;exact⟨rfl,⟨_,_,_,_,_,_,h.II K3 (λ_ _ x=>x) R3 O3⟩,K3.below h.bp (λk x=>h.low (by rcases x with x|x;exact Or.inl x;exact Or.inr (Or.inr (Or.inr (Or.inr x)))))⟩
 |true=>?_
 have l1:r.pos+1<t.size:=by
  rcases Nat.lt_or_ge (r.pos+1) t.size with x|x
  ·exact x
  rw[b_ x]at q1;simp[jF,bR,bx]at q1
 have hg:=sN (t:=t) (p:=r.pos+1+1) ⟨0,0,0⟩ (by omega);have q1:=hid q1
 cases q2:(Ch.guard t (r.pos+1+1) ⟨0,0,0⟩).1 with
 |false=>
  rw[show transition t self r=(false,{r with pos:=(Ch.guard t (r.pos+1+1) ⟨0,0,0⟩).2.2,uses:=cF (af t (r.pos+1)) (r.pos+1) r.uses})by simp[transition,q1.out,q2]];have q2:=hid q2
  go_enter func214,ntmps214
  go_wp2_with fail
  refine(aV b t (r.pos+1) _ hs.text hs.pos).mono ?_;rintro x w1 ⟨rfl,n1,rfl⟩;have R1:=hs.drewN n1;have K1:Kp (λk=>k=b) w ((w.setCell ⟨b,1,none⟩ (.int .i64 ((r.pos:Int)+1))).drewN n1):=((Kp.refl _ _).setCell (by intro _;rfl) _).drewN _;generalize (w.setCell ⟨b,1,none⟩ (.int .i64 ((r.pos:Int)+1))).drewN n1=w1 at R1 K1⊢;clear hs c1 f1
  go_wp2_with fail
  have T2:om (w1.alloc (.cells #[.int .i64 self,.int .u8 (af t (r.pos+1)),.int .u8 0,.int .u8 0,.int .i64 0,.slice none 0 0,.int .u8 0] 209)) w1.heap.size self (af t (r.pos+1)) ⟨0,0,0⟩ (.slice none 0 0) 0:=heap_alloc_new w1 _;have R2:=R1.alloc (.cells #[.int .i64 self,.int .u8 (af t (r.pos+1)),.int .u8 0,.int .u8 0,.int .i64 0,.slice none 0 0,.int .u8 0] 209);have K2:=K1.alloc (.cells #[.int .i64 self,.int .u8 (af t (r.pos+1)),.int .u8 0,.int .u8 0,.int .i64 0,.slice none 0 0,.int .u8 0] 209);have hsz:=K1.size;generalize w1.alloc (.cells #[.int .i64 self,.int .u8 (af t (r.pos+1)),.int .u8 0,.int .u8 0,.int .i64 0,.slice none 0 0,.int .u8 0] 209)=w2 at T2 R2 K2⊢;generalize w1.heap.size=tb at T2 hsz⊢;clear R1 K1;have O2:=K2.owns h.uses (λk hk e=>by subst e;exact own_ne h.uses h.blk (by decide) hk);have E:=oh B b t (r.pos+1) (.int .i64 0) (.int .i64 0) sv tv bv uv w2 r.uses R2 O2 (by have:=K2.size;omega) (by omega) (by omega);rw[q1.out]at E;refine Calls.mono E ?_;rintro x w3 ⟨rfl,Rl,R3,O3,Kx⟩;have hne:=T2.ne R2;have T3:=T2.keep Kx (λx=>by rcases x with x|x;exact hne x;exact own_ne O2 T2 (by decide) x);have K3:Kp (λk=>k=b\/uv.ownBlock=some k) w w3:=(K2.mono (λ_ _ x=>Or.inl x)).trans Kx;clear E Kx O2 T2 R2 K2;have R3:cW w3 b t (r.pos+1+1) (.int .i64 0) (.int .i64 0) sv tv bv Rl:=R3
  go_wp2_with fail
  have E:=xQ b tb t (r.pos+1+1) self (af t (r.pos+1)) 0 ⟨0,0,0⟩ (.slice none 0 0) (.int .i64 0) (.int .i64 0) sv tv bv Rl w3 R3 T3 (by omega);rw[q2.out]at E;refine Calls.mono E ?_;rintro x w4 ⟨rfl,R4,T4,Kx⟩;have O4:=Kx.owns O3 (λk hk e=>by rcases e with e|e;subst e;exact own_ne O3 R3 (by decide) hk;subst e;exact own_ne O3 T3 (by decide) hk);have K4:Kp (λk=>k=b\/uv.ownBlock=some k) w w4:=K3.trans' Kx (λi hi e=>by rcases e with e|e;exact Or.inl e;omega);clear E Kx O3 T3 R3 K3;go_wp2;go_ret;exact⟨rfl,⟨_,_,_,_,_,_,h.II K4 (λ_ _ x=>x) R4 O4⟩,K4.below h.bp (λk x=>h.low (by rcases x with x|x;exact Or.inl x;exact Or.inr (Or.inr (Or.inr (Or.inr x)))))⟩
 |true=>?_
 have ha:=vZ (t:=t) (cl:=62) (p:=(Ch.guard t (r.pos+1+1) ⟨0,0,0⟩).2.2) hg.2;have q2:=hid q2
 cases q3:(acts t 62 (Ch.guard t (r.pos+1+1) ⟨0,0,0⟩).2.2).1 with
 |false=>
  rw[show transition t self r=(false,{r with pos:=(acts t 62 (Ch.guard t (r.pos+1+1) ⟨0,0,0⟩).2.2).2.2,uses:=cF (af t (r.pos+1)) (r.pos+1) r.uses})by simp[transition,q1.out,q2.out,q3]];have q3:=hid q3
  go_enter func214,ntmps214
  go_wp2_with fail
  refine(aV b t (r.pos+1) _ hs.text hs.pos).mono ?_;rintro x w1 ⟨rfl,n1,rfl⟩;have R1:=hs.drewN n1;have K1:Kp (λk=>k=b) w ((w.setCell ⟨b,1,none⟩ (.int .i64 ((r.pos:Int)+1))).drewN n1):=((Kp.refl _ _).setCell (by intro _;rfl) _).drewN _;generalize (w.setCell ⟨b,1,none⟩ (.int .i64 ((r.pos:Int)+1))).drewN n1=w1 at R1 K1⊢;clear hs c1 f1
  go_wp2_with fail
  have T2:om (w1.alloc (.cells #[.int .i64 self,.int .u8 (af t (r.pos+1)),.int .u8 0,.int .u8 0,.int .i64 0,.slice none 0 0,.int .u8 0] 209)) w1.heap.size self (af t (r.pos+1)) ⟨0,0,0⟩ (.slice none 0 0) 0:=heap_alloc_new w1 _;have R2:=R1.alloc (.cells #[.int .i64 self,.int .u8 (af t (r.pos+1)),.int .u8 0,.int .u8 0,.int .i64 0,.slice none 0 0,.int .u8 0] 209);have K2:=K1.alloc (.cells #[.int .i64 self,.int .u8 (af t (r.pos+1)),.int .u8 0,.int .u8 0,.int .i64 0,.slice none 0 0,.int .u8 0] 209);have hsz:=K1.size;generalize w1.alloc (.cells #[.int .i64 self,.int .u8 (af t (r.pos+1)),.int .u8 0,.int .u8 0,.int .i64 0,.slice none 0 0,.int .u8 0] 209)=w2 at T2 R2 K2⊢;generalize w1.heap.size=tb at T2 hsz⊢;clear R1 K1;have O2:=K2.owns h.uses (λk hk e=>by subst e;exact own_ne h.uses h.blk (by decide) hk);have E:=oh B b t (r.pos+1) (.int .i64 0) (.int .i64 0) sv tv bv uv w2 r.uses R2 O2 (by have:=K2.size;omega) (by omega) (by omega);rw[q1.out]at E;refine Calls.mono E ?_;rintro x w3 ⟨rfl,Rl,R3,O3,Kx⟩;have hne:=T2.ne R2;have T3:=T2.keep Kx (λx=>by rcases x with x|x;exact hne x;exact own_ne O2 T2 (by decide) x);have K3:Kp (λk=>k=b\/uv.ownBlock=some k) w w3:=(K2.mono (λ_ _ x=>Or.inl x)).trans Kx;clear E Kx O2 T2 R2 K2;have R3:cW w3 b t (r.pos+1+1) (.int .i64 0) (.int .i64 0) sv tv bv Rl:=R3
  go_wp2_with fail
  have E:=xQ b tb t (r.pos+1+1) self (af t (r.pos+1)) 0 ⟨0,0,0⟩ (.slice none 0 0) (.int .i64 0) (.int .i64 0) sv tv bv Rl w3 R3 T3 (by omega);rw[q2.out]at E;refine Calls.mono E ?_;rintro x w4 ⟨rfl,R4,T4,Kx⟩;have O4:=Kx.owns O3 (λk hk e=>by rcases e with e|e;subst e;exact own_ne O3 R3 (by decide) hk;subst e;exact own_ne O3 T3 (by decide) hk);have K4:Kp (λk=>k=b\/uv.ownBlock=some k) w w4:=K3.trans' Kx (λi hi e=>by rcases e with e|e;exact Or.inl e;omega);clear E Kx O3 T3 R3 K3
  go_wp2_with fail
  have E:=v7 b t (Ch.guard t (r.pos+1+1) ⟨0,0,0⟩).2.2 (.int .i64 0) (.int .i64 0) sv tv bv Rl w4 62 R4 hg.2 ht (by decide);rw[q3.out]at E;refine Calls.mono E ?_;rintro x w5 ⟨av,rfl,R5,A5,Kx,_⟩;have Rm:=T4.ne R4;have T5:=T4.keep Kx Rm;have O5:=Kx.owns O4 (λk hk e=>by subst e;exact own_ne O4 R4 (by decide) hk)
  have hA5:=λk hk=>(A5.lt k hk).1
  have hs4:=K4.size;have hT4:=T4.lt;have K5:Kp (λk=>k=b\/uv.ownBlock=some k) w w5:=K4.trans' Kx (λi hi e=>Or.inl e);clear E Kx O4 T4 R4 K4;go_wp2;go_ret;exact⟨rfl,⟨_,_,_,_,_,_,h.II K5 (λ_ _ x=>x) R5 O5⟩,K5.below h.bp (λk x=>h.low (by rcases x with x|x;exact Or.inl x;exact Or.inr (Or.inr (Or.inr (Or.inr x)))))⟩
 |true=>?_
 rw[show transition t self r=(kf (af t (acts t 62 (Ch.guard t (r.pos+1+1) ⟨0,0,0⟩).2.2).2.2),
  {r with pos:=bI (kf (af t (acts t 62 (Ch.guard t (r.pos+1+1) ⟨0,0,0⟩).2.2).2.2)) (acts t 62 (Ch.guard t (r.pos+1+1) ⟨0,0,0⟩).2.2).2.2
          bG:=r.bG++[⟨self,af t (r.pos+1),(Ch.guard t (r.pos+1+1) ⟨0,0,0⟩).2.1,(acts t 62 (Ch.guard t (r.pos+1+1) ⟨0,0,0⟩).2.2).2.1,af t (acts t 62 (Ch.guard t (r.pos+1+1) ⟨0,0,0⟩).2.2).2.2⟩]
          uses:=cF (af t (acts t 62 (Ch.guard t (r.pos+1+1) ⟨0,0,0⟩).2.2).2.2) (acts t 62 (Ch.guard t (r.pos+1+1) ⟨0,0,0⟩).2.2).2.2 (cF (af t (r.pos+1)) (r.pos+1) r.uses)})by simp[transition,q1.out,q2.out,q3]]
 have q3:=hid q3
 go_enter func214,ntmps214
 go_wp2_with fail
 refine(aV b t (r.pos+1) _ hs.text hs.pos).mono ?_;rintro x w1 ⟨rfl,n1,rfl⟩;have R1:=hs.drewN n1;have K1:Kp (λk=>k=b) w ((w.setCell ⟨b,1,none⟩ (.int .i64 ((r.pos:Int)+1))).drewN n1):=((Kp.refl _ _).setCell (by intro _;rfl) _).drewN _;generalize (w.setCell ⟨b,1,none⟩ (.int .i64 ((r.pos:Int)+1))).drewN n1=w1 at R1 K1⊢;clear hs c1 f1
 go_wp2_with fail
 have T2:om (w1.alloc (.cells #[.int .i64 self,.int .u8 (af t (r.pos+1)),.int .u8 0,.int .u8 0,.int .i64 0,.slice none 0 0,.int .u8 0] 209)) w1.heap.size self (af t (r.pos+1)) ⟨0,0,0⟩ (.slice none 0 0) 0:=heap_alloc_new w1 _;have R2:=R1.alloc (.cells #[.int .i64 self,.int .u8 (af t (r.pos+1)),.int .u8 0,.int .u8 0,.int .i64 0,.slice none 0 0,.int .u8 0] 209);have K2:=K1.alloc (.cells #[.int .i64 self,.int .u8 (af t (r.pos+1)),.int .u8 0,.int .u8 0,.int .i64 0,.slice none 0 0,.int .u8 0] 209);have hsz:=K1.size;generalize w1.alloc (.cells #[.int .i64 self,.int .u8 (af t (r.pos+1)),.int .u8 0,.int .u8 0,.int .i64 0,.slice none 0 0,.int .u8 0] 209)=w2 at T2 R2 K2⊢;generalize w1.heap.size=tb at T2 hsz⊢;clear R1 K1;have O2:=K2.owns h.uses (λk hk e=>by subst e;exact own_ne h.uses h.blk (by decide) hk);have E:=oh B b t (r.pos+1) (.int .i64 0) (.int .i64 0) sv tv bv uv w2 r.uses R2 O2 (by have:=K2.size;omega) (by omega) (by omega);rw[q1.out]at E;refine Calls.mono E ?_;rintro x w3 ⟨rfl,Rl,R3,O3,Kx⟩;have hne:=T2.ne R2;have T3:=T2.keep Kx (λx=>by rcases x with x|x;exact hne x;exact own_ne O2 T2 (by decide) x);have K3:Kp (λk=>k=b\/uv.ownBlock=some k) w w3:=(K2.mono (λ_ _ x=>Or.inl x)).trans Kx;clear E Kx O2 T2 R2 K2;have R3:cW w3 b t (r.pos+1+1) (.int .i64 0) (.int .i64 0) sv tv bv Rl:=R3
 go_wp2_with fail
 have E:=xQ b tb t (r.pos+1+1) self (af t (r.pos+1)) 0 ⟨0,0,0⟩ (.slice none 0 0) (.int .i64 0) (.int .i64 0) sv tv bv Rl w3 R3 T3 (by omega);rw[q2.out]at E;refine Calls.mono E ?_;rintro x w4 ⟨rfl,R4,T4,Kx⟩;have O4:=Kx.owns O3 (λk hk e=>by rcases e with e|e;subst e;exact own_ne O3 R3 (by decide) hk;subst e;exact own_ne O3 T3 (by decide) hk);have K4:Kp (λk=>k=b\/uv.ownBlock=some k) w w4:=K3.trans' Kx (λi hi e=>by rcases e with e|e;exact Or.inl e;omega);clear E Kx O3 T3 R3 K3
 go_wp2_with fail
 have E:=v7 b t (Ch.guard t (r.pos+1+1) ⟨0,0,0⟩).2.2 (.int .i64 0) (.int .i64 0) sv tv bv Rl w4 62 R4 hg.2 ht (by decide);rw[q3.out]at E;refine Calls.mono E ?_;rintro x w5 ⟨av,rfl,R5,A5,Kx,_⟩;have Rm:=T4.ne R4;have T5:=T4.keep Kx Rm;have O5:=Kx.owns O4 (λk hk e=>by subst e;exact own_ne O4 R4 (by decide) hk)
 have hA5:=λk hk=>(A5.lt k hk).1
 have hs4:=K4.size;have hT4:=T4.lt;have K5:Kp (λk=>k=b\/uv.ownBlock=some k) w w5:=K4.trans' Kx (λi hi e=>Or.inl e);clear E Kx O4 T4 R4 K4;obtain⟨ao,am,C5,rfl⟩:=ew A5;have hne5:=T5.ne R5;have cc:=T5.cell 5;have ff:=T5.free 5;simp only[List.getElem?_toArray,List.getElem?_cons_succ,List.getElem?_cons_zero]at cc;have HH:=hid (ae R5 (ae T5 (ae K5 (ae A5 O5))));clear R5 T5 K5 A5 O5
 go_wp2_with fail
 obtain⟨R5,T5,K5,A5,O5⟩:=HH.out;clear HH cc ff;have R6:=R5.zA hne5 5 (.slice ao am C5);have T6:=T5.xP (.slice ao am C5);have K6:Kp (λk=>k=b\/uv.ownBlock=some k) w (w5.setCell ⟨tb,5,none⟩ (.slice ao am C5)):=K5.setCell (by intro x;exact absurd x (by show¬tb<_;omega)) _;have A6:=ownsRow_setCell_other A5 (a:=⟨tb,5,none⟩) (own_ne A5 T5 (by decide)) (.slice ao am C5);have O6:=ownsRow_setCell_other O5 (a:=⟨tb,5,none⟩) (own_ne O5 T5 (by decide)) (.slice ao am C5);generalize w5.setCell ⟨tb,5,none⟩ (.slice ao am C5)=w6 at R6 T6 K6 A6 O6⊢;clear R5 T5 K5 A5 O5;refine(aV b t (acts t 62 (Ch.guard t (r.pos+1+1) ⟨0,0,0⟩).2.2).2.2 _ R6.text R6.pos).mono ?_;rintro x wx ⟨rfl,nx,rfl⟩;have R7:=R6.drewN nx;have T7:=T6.drewN nx;have K7:=K6.drewN nx;have A7:(w6.drewN nx).ownsRow _ _ _ _ _ _:=A6;have O7:(w6.drewN nx).ownsRow _ _ _ _ _ _:=O6;generalize w6.drewN nx=w7 at R7 T7 K7 A7 O7⊢;clear R6 T6 K6 A6 O6
 obtain⟨pa,Gc⟩:∃x,(acts t 62 (Ch.guard t (r.pos+1+1) ⟨0,0,0⟩).2.2).2.2=x:=⟨_,rfl⟩
 obtain⟨la,hla⟩:∃x,(acts t 62 (Ch.guard t (r.pos+1+1) ⟨0,0,0⟩).2.2).2.1=x:=⟨_,rfl⟩
 obtain⟨g1,hg1⟩:∃x,(Ch.guard t (r.pos+1+1) ⟨0,0,0⟩).2.1=x:=⟨_,rfl⟩
 rw[Gc]at R7 ha⊢;rw[hla]at A7;rw[hg1]at T7;have HP:=hid (ae Gc (ae hla hg1));clear Gc hla hg1 q1 q2 q3;have cc:=T7.cell 6;have ff:=T7.free 6;simp only[List.getElem?_toArray,List.getElem?_cons_succ,List.getElem?_cons_zero]at cc;have HH:=hid (ae R7 (ae T7 (ae K7 (ae A7 O7))));clear R7 T7 K7 A7 O7
 go_upto_region 14 with(fail)
 obtain⟨R7,T7,K7,A7,O7⟩:=HH.out;clear HH cc ff;have R8:=R7.zA hne5 6 (.int .u8 (af t pa));have T8:=T7.Av (af t pa);have K8:Kp (λk=>k=b\/uv.ownBlock=some k) w (w7.setCell ⟨tb,6,none⟩ (.int .u8 (af t pa))):=K7.setCell (by intro x;exact absurd x (by show¬tb<_;omega)) _;have A8:=ownsRow_setCell_other A7 (a:=⟨tb,6,none⟩) (own_ne A7 T7 (by decide)) (.int .u8 (af t pa));have O8:=ownsRow_setCell_other O7 (a:=⟨tb,6,none⟩) (own_ne O7 T7 (by decide)) (.int .u8 (af t pa));generalize w7.setCell ⟨tb,6,none⟩ (.int .u8 (af t pa))=w8 at R8 T8 K8 A8 O8⊢;clear R7 T7 K7 A7 O7;have F8:=h.II K8 (λ_ _ x=>x) R8 O8;have B8:Below B w w8:=K8.below h.bp (λk x=>h.low (by rcases x with x|x;exact Or.inl x;exact Or.inr (Or.inr (Or.inr (Or.inr x)))));have hlen:=sP (af t (r.pos+1)) (r.pos+1) r.uses;have A8:=cO A8 (show B<=w4.heap.size by omega)
 have aiL:lt.length<=r.pos:=by have:=congrArg List.length h.Iw;simp at this;omega
 generalize hus:cF (af t (r.pos+1)) (r.pos+1) r.uses=us1 at F8 O8 hlen;have HU:=hid hus;clear hus;obtain⟨i0,hi,hz0,hz1,hz2⟩:=info_parts Rk;clear K8 h hA5 hs4 hT4 hg;have m0:=T8.cell 0;have m1:=T8.cell 1;have m2:=T8.cell 2;have m3:=T8.cell 3;have m4:=T8.cell 4;have m5:=T8.cell 5;have m6:=T8.cell 6;simp only[List.getElem?_toArray,List.getElem?_cons_succ,List.getElem?_cons_zero]at m0 m1 m2 m3 m4 m5 m6;have c5:=R8.c5
 have c5a:∀o,(w8.alloc o).cell? ⟨b,5,none⟩=some tv:=λo=>(R8.alloc o).c5
 have f5:=R8.free 5;have hnt:=hid (own_ne F8.bG R8 (by decide));have Vq:=hid F8.bp;have HH:=hid (ae R8 (ae F8 (ae A8 B8)));clear R8 F8 A8 O8 T8 B8
 go_region_law (refine gA rfl (.tmp 45) (.tmp 47) 84 rfl B 209 i0 (.agg #[.int .i64 0,.int .u8 0,.int .u8 0,.int .u8 0,.int .i64 0,.slice none 0 0,.int .u8 0]) 7 64 underlying84 hi hz0 hz1 hz2 rfl (by decide) tv lt.length (qZ lt) (by simp[Act.eval]) (by exact HH.out.2.1.bG.alloc _) ⟨w8.heap.size,0,none⟩ 1 1 [.int .i64 self,.int .u8 (af t (r.pos+1)),.int .u8 g1.var,.int .u8 g1.sign,.int .i64 g1.digit,.slice ao am C5,.int .u8 (af t pa)] (by simp[Act.eval]) rfl (by exact gB _ _ _) (by intro u hu;simp at hu;rcases hu with rfl|rfl|rfl|rfl|rfl|rfl|rfl<;>rfl) (by decide) (by unfold maxLen;omega) (by omega) (by have:=Vq.out;simp;omega) ?_;intro g cap w9 o9 g9;have R9:cW w9 b t pa (.int .i64 0) (.int .i64 0) sv tv bv Rl:=cW.grown (by exact HH.out.1.alloc (.cells #[.int .i64 self,.int .u8 (af t (r.pos+1)),.int .u8 g1.var,.int .u8 g1.sign,.int .i64 g1.digit,.slice ao am C5,.int .u8 (af t pa)] 209)) g9 hnt.out;have K9:Kp (λk=>k=b\/tv.ownBlock=some k) w8 w9:=Kp.grown (by exact((Kp.refl _ _).alloc (.cells #[.int .i64 self,.int .u8 (af t (r.pos+1)),.int .u8 g1.var,.int .u8 g1.sign,.int .i64 g1.digit,.slice ao am C5,.int .u8 (af t pa)] 209)).drew) g9 (λk hk _=>Or.inr hk);have x1:=R9.c5;have x2:=R9.free 5;have H9:=hid (ae R9 (ae o9 K9));clear R9 o9 K9 g9)
 all_goals
  obtain⟨R9,o9,K9⟩:=H9.out;obtain⟨R8,F8,A8,B8⟩:=HH.out;clear x1 x2 H9 HH m0 m1 m2 m3 m4 m5 m6 c5 c5a f5;have Ra:=R9.xP (.slice (some ⟨g,0,none⟩) (lt.length+1) cap);have Oa:=ownsRow_setCell_other o9 (a:=⟨b,5,none⟩) (own_ne o9 R9 (by decide)) (.slice (some ⟨g,0,none⟩) (lt.length+1) cap);have Ka:Kp (λk=>k=b\/tv.ownBlock=some k) w8 (w9.setCell ⟨b,5,none⟩ (.slice (some ⟨g,0,none⟩) (lt.length+1) cap)):=K9.setCell (by intro _;exact Or.inl rfl) _;generalize w9.setCell ⟨b,5,none⟩ (.slice (some ⟨g,0,none⟩) (lt.length+1) cap)=wa at Ra Oa Ka⊢;have Aa:=Ka.owns A8 (λk hk x=>by rcases x with x|x;subst x;exact own_ne A8 R8 (by decide) hk;exact cC A8 F8.bG (by decide) k hk x);have Fa:=F8.aiJ Ka (λ_ _ x=>x) (x:=(⟨self,af t (r.pos+1),g1,la,af t pa⟩,.slice ao am C5)) Ra (by rw[Ga];simpa using Oa) Aa;have Ba:=B8.trans (Ka.below F8.bp (λk x=>F8.low (by rcases x with x|x;exact Or.inl x;exact Or.inr (Or.inr (Or.inl x)))));clear R9 o9 K9 R8 F8 A8 B8 Ka Oa Ra Aa
  go_wp2_with fail
  refine(MG B b t pa (.int .i64 0) (.int .i64 0) sv _ bv Rl wa us1 Fa.blk Fa.uses Fa.bp (by omega) (by omega)).mono ?_;rintro x wb ⟨rfl,uv2,Rb,Ob,Kb⟩;have Fb:=Fa.II Kb (λ_ _ x=>x) Rb Ob;have Bb:=Ba.trans (Kb.below Fa.bp (λk x=>Fa.low (by rcases x with x|x;exact Or.inl x;exact Or.inr (Or.inr (Or.inr (Or.inr x))))));clear Rb Ob Kb Fa Ba;go_wp2;go_ret;obtain⟨e1,e2,e3⟩:=HP.out;rw[e1,e2,e3,HU.out];exact⟨rfl,⟨_,_,_,_,_,_,Fb⟩,Bb⟩
end
theorem Rn:(prog.info? 282).map (λi=>(i.zero,i.size,i.bytes))=some (some (.agg #[.int .i64 0,.int .u8 0,.slice none 0 0]),3,40):=by kernel_rfl
def D1(w:World)(tb:Nat)(s sg:Int)(ac:Value):Prop:=w.heap[tb]? =some (.cells #[.int .i64 s,.int .u8 sg,ac] 282 (0,0))
section
variable {w:World} {tb:Nat} {s sg:Int} {ac:Value}
theorem D1.cell(h:D1 w tb s sg ac)(i:Nat):w.cell? ⟨tb,i,none⟩= #[.int .i64 s,.int .u8 sg,ac][i]?:=by unfold D1 at h;simp[World.cell?,h]
theorem D1.free(h:D1 w tb s sg ac)(i:Nat):w.frozen? ⟨tb,i,none⟩=false:=by unfold D1 at h;simp[World.frozen?,h]
theorem D1.set2(h:D1 w tb s sg ac)(x:Value):D1 (w.setCell ⟨tb,2,none⟩ x) tb s sg x:=by unfold D1 at*;rw[ah _ h];rfl
theorem D1.keep{S:Nat->Prop}{w':World}(h:D1 w tb s sg ac)(k:Kp S w w')(hs:¬S tb):D1 w' tb s sg ac:=Kp.at_ k h hs
theorem D1.lt(h:D1 w tb s sg ac):tb<w.heap.size:=lt_of_block h
theorem D1.ne{b:Nat}{t:ByteArray}{p:Nat}{e f sv tv bv uv:Value}(h:D1 w tb s sg ac)(k:cW w b t p e f sv tv bv uv):tb≠b:=by
 intro x;subst x;unfold D1 at h;unfold cW at k;rw[h]at k;simp at k
end
def Ch.block(t:ByteArray)(self:Int)(r:Rs):Bool×Rs:=
 if(acts t 59 (r.pos+1)).1 then(true,{r with pos:=(acts t 59 (r.pos+1)).2.2,dz:=r.dz++[⟨self,af t r.pos,(acts t 59 (r.pos+1)).2.1⟩]})
 else(false,{r with pos:=(acts t 59 (r.pos+1)).2.2})
section
variable (B b:Nat) (t:ByteArray) (w:World)
theorem um(self:Int)(r:Rs)(H:Rd w B b t r)(hd:Bd r)(hp:r.pos<t.size)(ht:t.size<=240):
 Calls prog 215 #[.pointer (some ⟨b,0,none⟩),.int .i64 self] w λx w'=>x= .returned (.bool (Ch.block t self r).1)/\Rd w' B b t (Ch.block t self r).2/\Below B w w':=by
 obtain⟨sv,tv,bv,uv,lt,lb,h⟩:=H;obtain⟨d1,d2,d3,d4⟩:=hd;have hl0:=h.bp;have ha:=vZ (t:=t) (cl:=59) (p:=r.pos+1) (by omega)
 cases q3:(acts t 59 (r.pos+1)).1 with
 |false=>
  rw[show Ch.block t self r=(false,{r with pos:=(acts t 59 (r.pos+1)).2.2})by simp[Ch.block,q3]];have q3:=hid q3
  go_enter func215,ntmps215
  go_wp2_with fail
  refine(aV b t r.pos _ h.blk.text h.blk.pos).mono ?_;rintro x w1 ⟨rfl,n1,rfl⟩;have R1:=h.blk.drewN n1;have K1:Kp (λk=>k=b) w (w.drewN n1):=(Kp.refl _ _).drewN _;generalize w.drewN n1=w1 at R1 K1⊢
  have c1a:∀o,(w1.alloc o).cell? ⟨b,1,none⟩=some (.int .i64 r.pos):=λo=>(R1.alloc o).pos
  have f1a:∀o,(w1.alloc o).frozen? ⟨b,1,none⟩=false:=λo=>(R1.alloc o).free 1
  have hbl:=R1.lt;have HH:=hid (ae R1 K1);clear R1 K1
  go_wp2_with fail
  obtain⟨R1,K1⟩:=HH.out;clear HH c1a f1a
  have T2:D1 ((w1.setCell ⟨b,1,none⟩ (.int .i64 ((r.pos:Int)+1))).alloc (.cells #[.int .i64 self,.int .u8 (af t r.pos),.slice none 0 0] 282)) w1.heap.size self (af t r.pos) (.slice none 0 0):=by
   have e:=heap_alloc_new (w1.setCell ⟨b,1,none⟩ (.int .i64 ((r.pos:Int)+1))) (.cells #[.int .i64 self,.int .u8 (af t r.pos),.slice none 0 0] 282);rw[World.size_setCell]at e;exact e
  have R2:=R1.step.alloc (.cells #[.int .i64 self,.int .u8 (af t r.pos),.slice none 0 0] 282);have K2:Kp (λk=>k=b) w ((w1.setCell ⟨b,1,none⟩ (.int .i64 ((r.pos:Int)+1))).alloc (.cells #[.int .i64 self,.int .u8 (af t r.pos),.slice none 0 0] 282)):=(K1.setCell (by intro _;rfl) _).alloc _;have hsz:=K1.size;generalize ((w1.setCell ⟨b,1,none⟩ (.int .i64 ((r.pos:Int)+1))).alloc (.cells #[.int .i64 self,.int .u8 (af t r.pos),.slice none 0 0] 282))=w2 at T2 R2 K2⊢;generalize w1.heap.size=tb at T2 hsz hbl⊢;clear R1 K1;have E:=v7 b t (r.pos+1) (.int .i64 0) (.int .i64 0) sv tv bv uv w2 59 R2 (by omega) ht (by decide);rw[q3.out]at E;refine Calls.mono E ?_;rintro x w5 ⟨av,rfl,R5,A5,Kx,_⟩;have hne5:=T2.ne R2;have T5:=T2.keep Kx hne5;have K5:=K2.trans Kx;have hs2:=K2.size;clear E Kx T2 R2 K2;go_wp2;go_ret;exact⟨rfl,⟨_,_,_,_,_,_,h.move K5 (λ_ _ x=>x) R5⟩,K5.below h.bp (λk x=>h.low (Or.inl x))⟩
 |true=>?_
 rw[show Ch.block t self r=(true,{r with pos:=(acts t 59 (r.pos+1)).2.2,dz:=r.dz++[⟨self,af t r.pos,(acts t 59 (r.pos+1)).2.1⟩]})by simp[Ch.block,q3]];have q3:=hid q3
 go_enter func215,ntmps215
 go_wp2_with fail
 refine(aV b t r.pos _ h.blk.text h.blk.pos).mono ?_;rintro x w1 ⟨rfl,n1,rfl⟩;have R1:=h.blk.drewN n1;have K1:Kp (λk=>k=b) w (w.drewN n1):=(Kp.refl _ _).drewN _;generalize w.drewN n1=w1 at R1 K1⊢
 have c1a:∀o,(w1.alloc o).cell? ⟨b,1,none⟩=some (.int .i64 r.pos):=λo=>(R1.alloc o).pos
 have f1a:∀o,(w1.alloc o).frozen? ⟨b,1,none⟩=false:=λo=>(R1.alloc o).free 1
 have hbl:=R1.lt;have HH:=hid (ae R1 K1);clear R1 K1
 go_wp2_with fail
 obtain⟨R1,K1⟩:=HH.out;clear HH c1a f1a
 have T2:D1 ((w1.setCell ⟨b,1,none⟩ (.int .i64 ((r.pos:Int)+1))).alloc (.cells #[.int .i64 self,.int .u8 (af t r.pos),.slice none 0 0] 282)) w1.heap.size self (af t r.pos) (.slice none 0 0):=by
  have e:=heap_alloc_new (w1.setCell ⟨b,1,none⟩ (.int .i64 ((r.pos:Int)+1))) (.cells #[.int .i64 self,.int .u8 (af t r.pos),.slice none 0 0] 282);rw[World.size_setCell]at e;exact e
 have R2:=R1.step.alloc (.cells #[.int .i64 self,.int .u8 (af t r.pos),.slice none 0 0] 282);have K2:Kp (λk=>k=b) w ((w1.setCell ⟨b,1,none⟩ (.int .i64 ((r.pos:Int)+1))).alloc (.cells #[.int .i64 self,.int .u8 (af t r.pos),.slice none 0 0] 282)):=(K1.setCell (by intro _;rfl) _).alloc _;have hsz:=K1.size;generalize ((w1.setCell ⟨b,1,none⟩ (.int .i64 ((r.pos:Int)+1))).alloc (.cells #[.int .i64 self,.int .u8 (af t r.pos),.slice none 0 0] 282))=w2 at T2 R2 K2⊢;generalize w1.heap.size=tb at T2 hsz hbl⊢;clear R1 K1;have E:=v7 b t (r.pos+1) (.int .i64 0) (.int .i64 0) sv tv bv uv w2 59 R2 (by omega) ht (by decide);rw[q3.out]at E;refine Calls.mono E ?_;rintro x w5 ⟨av,rfl,R5,A5,Kx,_⟩;have hne5:=T2.ne R2;have T5:=T2.keep Kx hne5;have K5:=K2.trans Kx;have hs2:=K2.size;clear E Kx T2 R2 K2;obtain⟨ao,am,C5,rfl⟩:=ew A5;have cc:=T5.cell 2;have ff:=T5.free 2;simp only[List.getElem?_toArray,List.getElem?_cons_succ,List.getElem?_cons_zero]at cc;have HH:=hid (ae R5 (ae T5 (ae K5 A5)));clear R5 T5 K5 A5
 go_upto_region 7 with(fail)
 obtain⟨R5,T5,K5,A5⟩:=HH.out;clear HH cc ff;have R8:=R5.zA hne5 2 (.slice ao am C5);have T8:=T5.set2 (.slice ao am C5);have K8:Kp (λk=>k=b) w (w5.setCell ⟨tb,2,none⟩ (.slice ao am C5)):=K5.setCell (by intro x;exact absurd x (by show¬tb<_;omega)) _;have A8:=ownsRow_setCell_other A5 (a:=⟨tb,2,none⟩) (own_ne A5 T5 (by decide)) (.slice ao am C5);generalize w5.setCell ⟨tb,2,none⟩ (.slice ao am C5)=w8 at R8 T8 K8 A8⊢;clear R5 T5 K5 A5;have F8:=h.move K8 (λ_ _ x=>x) R8;have B8:Below B w w8:=K8.below h.bp (λk x=>h.low (Or.inl x));have A8:=cO A8 (show B<=w2.heap.size by omega)
 have aiL:lb.length<=r.pos:=by have:=congrArg List.length h.Mj;simp at this;omega
 obtain⟨i0,hi,hz0,hz1,hz2⟩:=info_parts Rn
 obtain⟨pa,Gc⟩:∃x,(acts t 59 (r.pos+1)).2.2=x:=⟨_,rfl⟩
 obtain⟨la,hla⟩:∃x,(acts t 59 (r.pos+1)).2.1=x:=⟨_,rfl⟩
 rw[Gc]at R8 F8 ha;rw[hla]at A8;have HP:=hid (ae Gc hla);clear Gc hla q3 K8 h;have m0:=T8.cell 0;have m1:=T8.cell 1;have m2:=T8.cell 2;simp only[List.getElem?_toArray,List.getElem?_cons_succ,List.getElem?_cons_zero]at m0 m1 m2;have c6:=R8.c6
 have c6a:∀o,(w8.alloc o).cell? ⟨b,6,none⟩=some bv:=λo=>(R8.alloc o).c6
 have f6:=R8.free 6;have hnt:=hid (own_ne F8.dz R8 (by decide));have Vq:=hid F8.bp;have HH:=hid (ae R8 (ae F8 (ae A8 B8)));clear R8 F8 A8 T8 B8
 go_region_law (refine gA rfl (.tmp 33) (.tmp 35) 85 rfl B 282 i0 (.agg #[.int .i64 0,.int .u8 0,.slice none 0 0]) 3 40 underlying85 hi hz0 hz1 hz2 rfl (by decide) bv lb.length (q_ lb) (by simp[Act.eval]) (by exact HH.out.2.1.dz.alloc _) ⟨w8.heap.size,0,none⟩ 1 1 [.int .i64 self,.int .u8 (af t r.pos),.slice ao am C5] (by simp[Act.eval]) rfl (by exact gB _ _ _) (by intro u hu;simp at hu;rcases hu with rfl|rfl|rfl<;>rfl) (by decide) (by unfold maxLen;omega) (by omega) (by have:=Vq.out;simp;omega) ?_;intro g cap w9 o9 g9;have R9:cW w9 b t pa (.int .i64 0) (.int .i64 0) sv tv bv uv:=cW.grown (by exact HH.out.1.alloc (.cells #[.int .i64 self,.int .u8 (af t r.pos),.slice ao am C5] 282)) g9 hnt.out;have K9:Kp (λk=>k=b\/bv.ownBlock=some k) w8 w9:=Kp.grown (by exact((Kp.refl _ _).alloc (.cells #[.int .i64 self,.int .u8 (af t r.pos),.slice ao am C5] 282)).drew) g9 (λk hk _=>Or.inr hk);have x1:=R9.c6;have x2:=R9.free 6;have H9:=hid (ae R9 (ae o9 K9));clear R9 o9 K9 g9)
 all_goals
  obtain⟨R9,o9,K9⟩:=H9.out;obtain⟨R8,F8,A8,B8⟩:=HH.out;clear x1 x2 H9 HH m0 m1 m2 c6 c6a f6;have Ra:=R9.Av (.slice (some ⟨g,0,none⟩) (lb.length+1) cap);have Oa:=ownsRow_setCell_other o9 (a:=⟨b,6,none⟩) (own_ne o9 R9 (by decide)) (.slice (some ⟨g,0,none⟩) (lb.length+1) cap);have Ka:Kp (λk=>k=b\/bv.ownBlock=some k) w8 (w9.setCell ⟨b,6,none⟩ (.slice (some ⟨g,0,none⟩) (lb.length+1) cap)):=K9.setCell (by intro _;exact Or.inl rfl) _;generalize w9.setCell ⟨b,6,none⟩ (.slice (some ⟨g,0,none⟩) (lb.length+1) cap)=wa at Ra Oa Ka⊢;have Aa:=Ka.owns A8 (λk hk x=>by rcases x with x|x;subst x;exact own_ne A8 R8 (by decide) hk;exact cC A8 F8.dz (by decide) k hk x);have Fa:=F8.aiK Ka (λ_ _ x=>x) (x:=(⟨self,af t r.pos,la⟩,.slice ao am C5)) Ra (by rw[Gb];simpa using Oa) Aa;have Ba:=B8.trans (Ka.below F8.bp (λk x=>F8.low (by rcases x with x|x;exact Or.inl x;exact Or.inr (Or.inr (Or.inr (Or.inl x))))));clear R9 o9 K9 R8 F8 A8 B8 Ka Oa Ra Aa;go_wp2;go_ret;obtain⟨e1,e2⟩:=HP.out;rw[e1,e2];exact⟨rfl,⟨_,_,_,_,_,_,Fa⟩,Ba⟩
end
end Go.Proofs.YtnlbchmfcebeeaaGreat
