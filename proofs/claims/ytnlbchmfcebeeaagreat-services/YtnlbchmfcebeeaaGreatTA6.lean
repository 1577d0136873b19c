import Derived.Test.YtnlbchmfcebeeaaGreatTA2
import Derived.Deep.Cut
set_option maxHeartbeats 12800000
set_option maxRecDepth 100000
namespace Go.Proofs.YtnlbchmfcebeeaaGreat
open Go.Proofs.Tryz Ch
open Go.RowKit
theorem J8:(prog.info? 209).map (λi=>(i.zero,i.size,i.bytes))=some (some (.agg #[.int .i64 0,.int .u8 0,.int .u8 0,.int .u8 0,.int .i64 0,.slice none 0 0,.int .u8 0]),7,64):=by kernel_rfl
theorem gL{w:World}{base:Nat}{e:TypeId}{size:Nat}{v:Value}{n:Nat}{xs:List Value}(h:w.ownsRow base e size v n xs):∃D m cap,v= .slice D m cap:=by
 rcases h.2 with⟨h,_⟩|⟨g,cap,_,h,_⟩
 ·simp_all
 simp_all
theorem fQ(w:World)(D:List Value)(T:TypeId):∀j u,D[j]? =some u->(w.alloc (.cells D.toArray T)).cell? ((⟨w.heap.size,0,none⟩:Addr).add j)=some u:=by
 intro j u F
 by_cases E:j=0
 ·subst E;simp[Addr.add,F]
 simp[Addr.add,E,F]
def Ch.transition(t:ByteArray)(D:Int)(r:Rs):Bool×Rs:=
 if mF (ag t (r.pos+1))then
  if(Ch.guard t (r.pos+1+1) ⟨0,0,0⟩).1 then
   if(bD t 62 (Ch.guard t (r.pos+1+1) ⟨0,0,0⟩).2.2).1 then
    (ns (ag t (bD t 62 (Ch.guard t (r.pos+1+1) ⟨0,0,0⟩).2.2).2.2),
     {r with pos:=cL (ns (ag t (bD t 62 (Ch.guard t (r.pos+1+1) ⟨0,0,0⟩).2.2).2.2)) (bD t 62 (Ch.guard t (r.pos+1+1) ⟨0,0,0⟩).2.2).2.2
             cW:=r.cW++[⟨D,ag t (r.pos+1),(Ch.guard t (r.pos+1+1) ⟨0,0,0⟩).2.1,(bD t 62 (Ch.guard t (r.pos+1+1) ⟨0,0,0⟩).2.2).2.1,ag t (bD t 62 (Ch.guard t (r.pos+1+1) ⟨0,0,0⟩).2.2).2.2⟩]
             cN:=dJ (ag t (bD t 62 (Ch.guard t (r.pos+1+1) ⟨0,0,0⟩).2.2).2.2) (bD t 62 (Ch.guard t (r.pos+1+1) ⟨0,0,0⟩).2.2).2.2 (dJ (ag t (r.pos+1)) (r.pos+1) r.cN)})
   else(false,{r with pos:=(bD t 62 (Ch.guard t (r.pos+1+1) ⟨0,0,0⟩).2.2).2.2,cN:=dJ (ag t (r.pos+1)) (r.pos+1) r.cN})
  else(false,{r with pos:=(Ch.guard t (r.pos+1+1) ⟨0,0,0⟩).2.2,cN:=dJ (ag t (r.pos+1)) (r.pos+1) r.cN})
 else(false,{r with pos:=r.pos+1,cN:=dJ (ag t (r.pos+1)) (r.pos+1) r.cN})
theorem Ch.sh(c:Int)(p:Nat)(us:List Us):(dJ c p us).length<=us.length+1:=by unfold dJ;split<;>simp
section
variable (B b:Nat) (t:ByteArray) (w:World)
theorem sk(D:Int)(r:Rs)(H:Rd w B b t r)(hd:Bd r)(hp:r.pos<t.size)(ht:t.size<=240):
 Calls prog 214 #[.pointer (some ⟨b,0,none⟩),.int .i64 D] w λx w'=>x= .returned (.bool (transition t D r).1)/\Rd w' B b t (transition t D r).2/\Below B w w':=by
 obtain⟨sv,tv,bv,uv,lt,lb,h⟩:=H;obtain⟨d1,d2,d3,d4⟩:=hd;have hs:=h.bO.step;have c1:=h.bO.pos;have f1:=h.bO.free 1;have a5:=h.bK
 cases q1:mF (ag t (r.pos+1))with
 |false=>
  rw[show transition t D r=(false,{r with pos:=r.pos+1,cN:=dJ (ag t (r.pos+1)) (r.pos+1) r.cN})by simp[transition,q1]];have q1:=af q1
  go_enter func214,ntmps214
  go_wp2_with fail
  refine(bC b t (r.pos+1) _ hs.text hs.pos).mono ?_;rintro x J ⟨rfl,n1,rfl⟩;have R1:=hs.drewN n1;have O:Kp (λk=>k=b) w ((w.setCell ⟨b,1,none⟩ (.int .i64 ((r.pos:Int)+1))).drewN n1):=((Kp.refl _ _).setCell (by intro _;rfl) _).drewN _;generalize (w.setCell ⟨b,1,none⟩ (.int .i64 ((r.pos:Int)+1))).drewN n1=J at R1 O⊢;clear hs c1 f1
  go_wp2_with fail
  have G:oV (J.alloc (.cells #[.int .i64 D,.int .u8 (ag t (r.pos+1)),.int .u8 0,.int .u8 0,.int .i64 0,.slice none 0 0,.int .u8 0] 209)) _ _ _ ⟨0,0,0⟩ _ _:=an J _;have U:=R1.alloc (.cells #[.int .i64 D,.int .u8 (ag t (r.pos+1)),.int .u8 0,.int .u8 0,.int .i64 0,.slice none 0 0,.int .u8 0] 209);have I:=O.alloc (.cells #[.int .i64 D,.int .u8 (ag t (r.pos+1)),.int .u8 0,.int .u8 0,.int .i64 0,.slice none 0 0,.int .u8 0] 209);have iG:=O.size;generalize J.alloc (.cells #[.int .i64 D,.int .u8 (ag t (r.pos+1)),.int .u8 0,.int .u8 0,.int .i64 0,.slice none 0 0,.int .u8 0] 209)=w2 at G U I⊢;generalize J.heap.size=tb at G iG⊢;clear R1 O;have Z:=I.owns h.cN (λk hk e=>by subst e;exact aZ h.cN h.bO (by decide) hk);have E:=oU B b t (r.pos+1) (.int .i64 0) (.int .i64 0) sv tv bv uv w2 r.cN U Z (by have:=I.size;omega) (by omega) (by omega);rw[q1.out]at E;refine bu E ?_;rintro x w3 ⟨rfl,J9,X,Y,F⟩;have aa:=G.ne U;have T3:=G.az F (λx=>by rcases x with x|x;exact aa x;exact aZ Z G (by decide) x);have K3:=(I.mono (λ_ _ x=>Or.inl x)).trans F;clear E F Z G U I;go_wp2;go_ret;exact⟨rfl,⟨_,_,_,_,_,_,h.Dp K3 (λ_ _ x=>x) X Y⟩,K3.below h.bK (λk x=>h.low (by rcases x with x|x;exact Or.inl x;exact Or.inr (Or.inr (Or.inr (Or.inr x)))))⟩
 |true=>?_
 have l1:r.pos+1<t.size:=by
  rcases jA (r.pos+1) t.size with x|x
  ·exact x
  rw[cY x]at q1;simp[mF,ez,dS]at q1
 have hg:=sf (t:=t) (p:=r.pos+1+1) ⟨0,0,0⟩ (by omega);have q1:=af q1
 cases q2:(Ch.guard t (r.pos+1+1) ⟨0,0,0⟩).1 with
 |false=>
  rw[show transition t D r=(false,{r with pos:=(Ch.guard t (r.pos+1+1) ⟨0,0,0⟩).2.2,cN:=dJ (ag t (r.pos+1)) (r.pos+1) r.cN})by simp[transition,q1.out,q2]];have q2:=af q2
  go_enter func214,ntmps214
  go_wp2_with fail
  refine(bC b t (r.pos+1) _ hs.text hs.pos).mono ?_;rintro x J ⟨rfl,n1,rfl⟩;have R1:=hs.drewN n1;have O:Kp (λk=>k=b) w ((w.setCell ⟨b,1,none⟩ (.int .i64 ((r.pos:Int)+1))).drewN n1):=((Kp.refl _ _).setCell (by intro _;rfl) _).drewN _;generalize (w.setCell ⟨b,1,none⟩ (.int .i64 ((r.pos:Int)+1))).drewN n1=J at R1 O⊢;clear hs c1 f1
  go_wp2_with fail
  have G:oV (J.alloc (.cells #[.int .i64 D,.int .u8 (ag t (r.pos+1)),.int .u8 0,.int .u8 0,.int .i64 0,.slice none 0 0,.int .u8 0] 209)) _ _ _ ⟨0,0,0⟩ _ _:=an J _;have U:=R1.alloc (.cells #[.int .i64 D,.int .u8 (ag t (r.pos+1)),.int .u8 0,.int .u8 0,.int .i64 0,.slice none 0 0,.int .u8 0] 209);have I:=O.alloc (.cells #[.int .i64 D,.int .u8 (ag t (r.pos+1)),.int .u8 0,.int .u8 0,.int .i64 0,.slice none 0 0,.int .u8 0] 209);have iG:=O.size;generalize J.alloc (.cells #[.int .i64 D,.int .u8 (ag t (r.pos+1)),.int .u8 0,.int .u8 0,.int .i64 0,.slice none 0 0,.int .u8 0] 209)=w2 at G U I⊢;generalize J.heap.size=tb at G iG⊢;clear R1 O;have Z:=I.owns h.cN (λk hk e=>by subst e;exact aZ h.cN h.bO (by decide) hk);have E:=oU B b t (r.pos+1) (.int .i64 0) (.int .i64 0) sv tv bv uv w2 r.cN U Z (by have:=I.size;omega) (by omega) (by omega);rw[q1.out]at E;refine bu E ?_;rintro x w3 ⟨rfl,J9,X,Y,F⟩;have aa:=G.ne U;have T3:=G.az F (λx=>by rcases x with x|x;exact aa x;exact aZ Z G (by decide) x);have K3:=(I.mono (λ_ _ x=>Or.inl x)).trans F;clear E F Z G U I;have X:dG w3 b t (r.pos+1+1) (.int .i64 0) (.int .i64 0) sv tv bv J9:=X
  go_wp2_with fail
  have E:=vZ b tb t (r.pos+1+1) D (ag t (r.pos+1)) 0 ⟨0,0,0⟩ (.slice none 0 0) (.int .i64 0) (.int .i64 0) sv tv bv J9 w3 X T3 (by omega);rw[q2.out]at E;refine bu E ?_;rintro x w4 ⟨rfl,R4,T4,F⟩;have O4:=F.owns Y (λk hk e=>by rcases e with e|e;subst e;exact aZ Y X (by decide) hk;subst e;exact aZ Y T3 (by decide) hk);have K4:=K3.trans' F (λi hi e=>by rcases e with e|e;exact Or.inl e;omega);clear E F Y T3 X K3;go_wp2;go_ret;exact⟨rfl,⟨_,_,_,_,_,_,h.Dp K4 (λ_ _ x=>x) R4 O4⟩,K4.below h.bK (λk x=>h.low (by rcases x with x|x;exact Or.inl x;exact Or.inr (Or.inr (Or.inr (Or.inr x)))))⟩
 |true=>?_
 have ha:=u9 (t:=t) (cl:=62) (p:=(Ch.guard t (r.pos+1+1) ⟨0,0,0⟩).2.2) hg.2;have q2:=af q2
 cases q3:(bD t 62 (Ch.guard t (r.pos+1+1) ⟨0,0,0⟩).2.2).1 with
 |false=>
  rw[show transition t D r=(false,{r with pos:=(bD t 62 (Ch.guard t (r.pos+1+1) ⟨0,0,0⟩).2.2).2.2,cN:=dJ (ag t (r.pos+1)) (r.pos+1) r.cN})by simp[transition,q1.out,q2.out,q3]];have q3:=af q3
  go_enter func214,ntmps214
  go_wp2_with fail
  refine(bC b t (r.pos+1) _ hs.text hs.pos).mono ?_;rintro x J ⟨rfl,n1,rfl⟩;have R1:=hs.drewN n1;have O:Kp (λk=>k=b) w ((w.setCell ⟨b,1,none⟩ (.int .i64 ((r.pos:Int)+1))).drewN n1):=((Kp.refl _ _).setCell (by intro _;rfl) _).drewN _;generalize (w.setCell ⟨b,1,none⟩ (.int .i64 ((r.pos:Int)+1))).drewN n1=J at R1 O⊢;clear hs c1 f1
  go_wp2_with fail
  have G:oV (J.alloc (.cells #[.int .i64 D,.int .u8 (ag t (r.pos+1)),.int .u8 0,.int .u8 0,.int .i64 0,.slice none 0 0,.int .u8 0] 209)) _ _ _ ⟨0,0,0⟩ _ _:=an J _;have U:=R1.alloc (.cells #[.int .i64 D,.int .u8 (ag t (r.pos+1)),.int .u8 0,.int .u8 0,.int .i64 0,.slice none 0 0,.int .u8 0] 209);have I:=O.alloc (.cells #[.int .i64 D,.int .u8 (ag t (r.pos+1)),.int .u8 0,.int .u8 0,.int .i64 0,.slice none 0 0,.int .u8 0] 209);have iG:=O.size;generalize J.alloc (.cells #[.int .i64 D,.int .u8 (ag t (r.pos+1)),.int .u8 0,.int .u8 0,.int .i64 0,.slice none 0 0,.int .u8 0] 209)=w2 at G U I⊢;generalize J.heap.size=tb at G iG⊢;clear R1 O;have Z:=I.owns h.cN (λk hk e=>by subst e;exact aZ h.cN h.bO (by decide) hk);have E:=oU B b t (r.pos+1) (.int .i64 0) (.int .i64 0) sv tv bv uv w2 r.cN U Z (by have:=I.size;omega) (by omega) (by omega);rw[q1.out]at E;refine bu E ?_;rintro x w3 ⟨rfl,J9,X,Y,F⟩;have aa:=G.ne U;have T3:=G.az F (λx=>by rcases x with x|x;exact aa x;exact aZ Z G (by decide) x);have K3:=(I.mono (λ_ _ x=>Or.inl x)).trans F;clear E F Z G U I;have X:dG w3 b t (r.pos+1+1) (.int .i64 0) (.int .i64 0) sv tv bv J9:=X
  go_wp2_with fail
  have E:=vZ b tb t (r.pos+1+1) D (ag t (r.pos+1)) 0 ⟨0,0,0⟩ (.slice none 0 0) (.int .i64 0) (.int .i64 0) sv tv bv J9 w3 X T3 (by omega);rw[q2.out]at E;refine bu E ?_;rintro x w4 ⟨rfl,R4,T4,F⟩;have O4:=F.owns Y (λk hk e=>by rcases e with e|e;subst e;exact aZ Y X (by decide) hk;subst e;exact aZ Y T3 (by decide) hk);have K4:=K3.trans' F (λi hi e=>by rcases e with e|e;exact Or.inl e;omega);clear E F Y T3 X K3
  go_wp2_with fail
  have E:=u_ b t (Ch.guard t (r.pos+1+1) ⟨0,0,0⟩).2.2 (.int .i64 0) (.int .i64 0) sv tv bv J9 w4 62 R4 hg.2 ht (by decide);rw[q3.out]at E;refine bu E ?_;rintro x w5 ⟨av,rfl,R5,A5,F,_⟩;have UA:=T4.ne R4;have T5:=T4.az F UA;have O5:=F.owns O4 (λk hk e=>by subst e;exact aZ O4 R4 (by decide) hk)
  have WJ:=λk hk=>(A5.lt k hk).1
  have aO:=K4.size;have WK:=T4.lt;have K5:=K4.trans' F (λi hi e=>Or.inl e);clear E F O4 T4 R4 K4;go_wp2;go_ret;exact⟨rfl,⟨_,_,_,_,_,_,h.Dp K5 (λ_ _ x=>x) R5 O5⟩,K5.below h.bK (λk x=>h.low (by rcases x with x|x;exact Or.inl x;exact Or.inr (Or.inr (Or.inr (Or.inr x)))))⟩
 |true=>?_
 rw[show transition t D r=(ns (ag t (bD t 62 (Ch.guard t (r.pos+1+1) ⟨0,0,0⟩).2.2).2.2),
  {r with pos:=cL (ns (ag t (bD t 62 (Ch.guard t (r.pos+1+1) ⟨0,0,0⟩).2.2).2.2)) (bD t 62 (Ch.guard t (r.pos+1+1) ⟨0,0,0⟩).2.2).2.2
          cW:=r.cW++[⟨D,ag t (r.pos+1),(Ch.guard t (r.pos+1+1) ⟨0,0,0⟩).2.1,(bD t 62 (Ch.guard t (r.pos+1+1) ⟨0,0,0⟩).2.2).2.1,ag t (bD t 62 (Ch.guard t (r.pos+1+1) ⟨0,0,0⟩).2.2).2.2⟩]
          cN:=dJ (ag t (bD t 62 (Ch.guard t (r.pos+1+1) ⟨0,0,0⟩).2.2).2.2) (bD t 62 (Ch.guard t (r.pos+1+1) ⟨0,0,0⟩).2.2).2.2 (dJ (ag t (r.pos+1)) (r.pos+1) r.cN)})by simp[transition,q1.out,q2.out,q3]]
 have q3:=af q3
 go_enter func214,ntmps214
 go_wp2_with fail
 refine(bC b t (r.pos+1) _ hs.text hs.pos).mono ?_;rintro x J ⟨rfl,n1,rfl⟩;have R1:=hs.drewN n1;have O:Kp (λk=>k=b) w ((w.setCell ⟨b,1,none⟩ (.int .i64 ((r.pos:Int)+1))).drewN n1):=((Kp.refl _ _).setCell (by intro _;rfl) _).drewN _;generalize (w.setCell ⟨b,1,none⟩ (.int .i64 ((r.pos:Int)+1))).drewN n1=J at R1 O⊢;clear hs c1 f1
 go_wp2_with fail
 have G:oV (J.alloc (.cells #[.int .i64 D,.int .u8 (ag t (r.pos+1)),.int .u8 0,.int .u8 0,.int .i64 0,.slice none 0 0,.int .u8 0] 209)) _ _ _ ⟨0,0,0⟩ _ _:=an J _;have U:=R1.alloc (.cells #[.int .i64 D,.int .u8 (ag t (r.pos+1)),.int .u8 0,.int .u8 0,.int .i64 0,.slice none 0 0,.int .u8 0] 209);have I:=O.alloc (.cells #[.int .i64 D,.int .u8 (ag t (r.pos+1)),.int .u8 0,.int .u8 0,.int .i64 0,.slice none 0 0,.int .u8 0] 209);have iG:=O.size;generalize J.alloc (.cells #[.int .i64 D,.int .u8 (ag t (r.pos+1)),.int .u8 0,.int .u8 0,.int .i64 0,.slice none 0 0,.int .u8 0] 209)=w2 at G U I⊢;generalize J.heap.size=tb at G iG⊢;clear R1 O;have Z:=I.owns h.cN (λk hk e=>by subst e;exact aZ h.cN h.bO (by decide) hk);have E:=oU B b t (r.pos+1) (.int .i64 0) (.int .i64 0) sv tv bv uv w2 r.cN U Z (by have:=I.size;omega) (by omega) (by omega);rw[q1.out]at E;refine bu E ?_;rintro x w3 ⟨rfl,J9,X,Y,F⟩;have aa:=G.ne U;have T3:=G.az F (λx=>by rcases x with x|x;exact aa x;exact aZ Z G (by decide) x);have K3:=(I.mono (λ_ _ x=>Or.inl x)).trans F;clear E F Z G U I;have X:dG w3 b t (r.pos+1+1) (.int .i64 0) (.int .i64 0) sv tv bv J9:=X
 go_wp2_with fail
 have E:=vZ b tb t (r.pos+1+1) D (ag t (r.pos+1)) 0 ⟨0,0,0⟩ (.slice none 0 0) (.int .i64 0) (.int .i64 0) sv tv bv J9 w3 X T3 (by omega);rw[q2.out]at E;refine bu E ?_;rintro x w4 ⟨rfl,R4,T4,F⟩;have O4:=F.owns Y (λk hk e=>by rcases e with e|e;subst e;exact aZ Y X (by decide) hk;subst e;exact aZ Y T3 (by decide) hk);have K4:=K3.trans' F (λi hi e=>by rcases e with e|e;exact Or.inl e;omega);clear E F Y T3 X K3
 go_wp2_with fail
 have E:=u_ b t (Ch.guard t (r.pos+1+1) ⟨0,0,0⟩).2.2 (.int .i64 0) (.int .i64 0) sv tv bv J9 w4 62 R4 hg.2 ht (by decide);rw[q3.out]at E;refine bu E ?_;rintro x w5 ⟨av,rfl,R5,A5,F,_⟩;have UA:=T4.ne R4;have T5:=T4.az F UA;have O5:=F.owns O4 (λk hk e=>by subst e;exact aZ O4 R4 (by decide) hk)
 have WJ:=λk hk=>(A5.lt k hk).1
 have aO:=K4.size;have WK:=T4.lt;have K5:=K4.trans' F (λi hi e=>Or.inl e);clear E F O4 T4 R4 K4;obtain⟨ao,am,zX,rfl⟩:=gL A5;have ad:=T5.ne R5;have cc:=T5.cell 5;have ff:=T5.free 5;simp only[gf,gh,gq]at cc;have HH:=af (ae R5 (ae T5 (ae K5 (ae A5 O5))));clear R5 T5 K5 A5 O5
 go_wp2_with fail
 obtain⟨R5,T5,K5,A5,O5⟩:=HH.out;clear HH cc ff;have R6:=R5.xz ad 5 (.slice ao am zX);have T6:=T5.vY (.slice ao am zX);have K6:Kp _ _ (w5.setCell ⟨tb,5,none⟩ (.slice ao am zX)):=K5.setCell (by intro x;exact absurd x (by show¬tb<_;omega)) _;have A6:=k8 A5 (a:=⟨tb,5,none⟩) (aZ A5 T5 (by decide)) (.slice ao am zX);have O6:=k8 O5 (a:=⟨tb,5,none⟩) (aZ O5 T5 (by decide)) (.slice ao am zX);generalize w5.setCell ⟨tb,5,none⟩ (.slice ao am zX)=w6 at R6 T6 K6 A6 O6⊢;clear R5 T5 K5 A5 O5;refine(bC b t (bD t 62 (Ch.guard t (r.pos+1+1) ⟨0,0,0⟩).2.2).2.2 _ R6.text R6.pos).mono ?_;rintro x wx ⟨rfl,nx,rfl⟩;have R7:=R6.drewN nx;have T7:=T6.drewN nx;have K7:=K6.drewN nx;have A7:(w6.drewN nx).ownsRow _ _ _ _ _ _:=A6;have O7:(w6.drewN nx).ownsRow _ _ _ _ _ _:=O6;generalize w6.drewN nx=w7 at R7 T7 K7 A7 O7⊢;clear R6 T6 K6 A6 O6
 obtain⟨pa,F_⟩:∃x,(bD t 62 (Ch.guard t (r.pos+1+1) ⟨0,0,0⟩).2.2).2.2=x:=⟨_,rfl⟩
 obtain⟨la,ap⟩:∃x,(bD t 62 (Ch.guard t (r.pos+1+1) ⟨0,0,0⟩).2.2).2.1=x:=⟨_,rfl⟩
 obtain⟨g1,aj⟩:∃x,(Ch.guard t (r.pos+1+1) ⟨0,0,0⟩).2.1=x:=⟨_,rfl⟩
 rw[F_]at R7 ha⊢;rw[ap]at A7;rw[aj]at T7;have HP:=af (ae F_ (ae ap aj));clear F_ ap aj q1 q2 q3;have cc:=T7.cell 6;have ff:=T7.free 6;simp only[gf,gh,gq]at cc;have HH:=af (ae R7 (ae T7 (ae K7 (ae A7 O7))));clear R7 T7 K7 A7 O7
 go_upto_region 14 with(fail)
 obtain⟨R7,T7,K7,A7,O7⟩:=HH.out;clear HH cc ff;have R8:=R7.xz ad 6 (.int .u8 (ag t pa));have T8:=T7.ya (ag t pa);have K8:Kp _ _ (w7.setCell ⟨tb,6,none⟩ (.int .u8 (ag t pa))):=K7.setCell (by intro x;exact absurd x (by show¬tb<_;omega)) _;have A8:=k8 A7 (a:=⟨tb,6,none⟩) (aZ A7 T7 (by decide)) (.int .u8 (ag t pa));have O8:=k8 O7 (a:=⟨tb,6,none⟩) (aZ O7 T7 (by decide)) (.int .u8 (ag t pa));generalize w7.setCell ⟨tb,6,none⟩ (.int .u8 (ag t pa))=w8 at R8 T8 K8 A8 O8⊢;clear R7 T7 K7 A7 O7;have F8:=h.Dp K8 (λ_ _ x=>x) R8 O8;have B8:=K8.below h.bK (λk x=>h.low (by rcases x with x|x;exact Or.inl x;exact Or.inr (Or.inr (Or.inr (Or.inr x)))));have aI:=sh (ag t (r.pos+1)) (r.pos+1) r.cN;have A8:=dY A8 (show B<=w4.heap.size by omega)
 have Z3:lt.length<=r.pos:=by have:=gr List.length h.F9;simp at this;omega
 generalize Z4:dJ (ag t (r.pos+1)) (r.pos+1) r.cN=a4 at F8 O8 aI;have HU:=af Z4;clear Z4;obtain⟨i0,hi,a1,a2,a3⟩:=bY J8;clear K8 h WJ aO WK hg;have m0:=T8.cell 0;have m1:=T8.cell 1;have m2:=T8.cell 2;have m3:=T8.cell 3;have m4:=T8.cell 4;have m5:=T8.cell 5;have m6:=T8.cell 6;simp only[gf,gh,gq]at m0 m1 m2 m3 m4 m5 m6;have c5:=R8.c5
 have aS:=λo=>(R8.alloc o).c5
 have f5:=R8.free 5;have a0:=af (aZ F8.cW R8 (by decide));have ND:=af F8.bK;have HH:=af (ae R8 (ae F8 (ae A8 B8)));clear R8 F8 A8 O8 T8 B8
 go_region_law (refine gZ rfl (.tmp 45) (.tmp 47) 84 rfl B 209 i0 (.agg #[.int .i64 0,.int .u8 0,.int .u8 0,.int .u8 0,.int .i64 0,.slice none 0 0,.int .u8 0]) 7 64 underlying84 hi a1 a2 a3 rfl (by decide) tv lt.length (qT lt) (by simp[Act.eval]) (by exact HH.out.2.1.cW.alloc _) ⟨w8.heap.size,0,none⟩ 1 1 [.int .i64 D,.int .u8 (ag t (r.pos+1)),.int .u8 g1.var,.int .u8 g1.sign,.int .i64 g1.digit,.slice ao am zX,.int .u8 (ag t pa)] (by simp[Act.eval]) rfl (by exact fQ _ _ _) (by intro u hu;simp at hu;rcases hu with rfl|rfl|rfl|rfl|rfl|rfl|rfl<;>rfl) (by decide) (by unfold maxLen;omega) (by omega) (by have:=ND.out;simp;omega) ?_;intro g cap w9 o9 g9;have R9:dG w9 b t pa (.int .i64 0) (.int .i64 0) sv tv bv J9:=dG.grown (by exact HH.out.1.alloc (.cells #[.int .i64 D,.int .u8 (ag t (r.pos+1)),.int .u8 g1.var,.int .u8 g1.sign,.int .i64 g1.digit,.slice ao am zX,.int .u8 (ag t pa)] 209)) g9 a0.out;have K9:Kp (λk=>k=b\/tv.ownBlock=some k) w8 w9:=Kp.grown (by exact((Kp.refl _ _).alloc (.cells #[.int .i64 D,.int .u8 (ag t (r.pos+1)),.int .u8 g1.var,.int .u8 g1.sign,.int .i64 g1.digit,.slice ao am zX,.int .u8 (ag t pa)] 209)).drew) g9 (λk hk _=>Or.inr hk);have x1:=R9.c5;have x2:=R9.free 5;have H9:=af (ae R9 (ae o9 K9));clear R9 o9 K9 g9)
 all_goals
  obtain⟨R9,o9,K9⟩:=H9.out;obtain⟨R8,F8,A8,B8⟩:=HH.out;clear x1 x2 H9 HH m0 m1 m2 m3 m4 m5 m6 c5 aS f5;have Ra:=R9.vY (.slice (some ⟨g,0,none⟩) (lt.length+1) cap);have Oa:=k8 o9 (a:=⟨b,5,none⟩) (aZ o9 R9 (by decide)) (.slice (some ⟨g,0,none⟩) (lt.length+1) cap);have Ka:Kp _ _ (w9.setCell ⟨b,5,none⟩ (.slice (some ⟨g,0,none⟩) (lt.length+1) cap)):=K9.setCell (by intro _;exact Or.inl rfl) _;generalize w9.setCell ⟨b,5,none⟩ (.slice (some ⟨g,0,none⟩) (lt.length+1) cap)=wa at Ra Oa Ka⊢;have Aa:=Ka.owns A8 (λk hk x=>by rcases x with x|x;subst x;exact aZ A8 R8 (by decide) hk;exact dp A8 F8.cW (by decide) k hk x);have Fa:=F8.Z0 Ka (λ_ _ x=>x) (x:=(⟨D,ag t (r.pos+1),g1,la,ag t pa⟩,.slice ao am zX)) Ra (by rw[B0];simpa using Oa) Aa;have Ba:=B8.trans (Ka.below F8.bK (λk x=>F8.low (by rcases x with x|x;exact Or.inl x;exact Or.inr (Or.inr (Or.inl x)))));clear R9 o9 K9 R8 F8 A8 B8 Ka Oa Ra Aa
  go_wp2_with fail
  refine(Gv B b t pa (.int .i64 0) (.int .i64 0) sv _ bv J9 wa a4 Fa.bO Fa.cN Fa.bK (by omega) (by omega)).mono ?_;rintro x wb ⟨rfl,a6,Rb,Ob,Kb⟩;have Fb:=Fa.Dp Kb (λ_ _ x=>x) Rb Ob;have Bb:=Ba.trans (Kb.below Fa.bK (λk x=>Fa.low (by rcases x with x|x;exact Or.inl x;exact Or.inr (Or.inr (Or.inr (Or.inr x))))));clear Rb Ob Kb Fa Ba;go_wp2;go_ret;obtain⟨e1,e2,e3⟩:=HP.out;rw[e1,e2,e3,HU.out];exact⟨rfl,⟨_,_,_,_,_,_,Fb⟩,Bb⟩
end
theorem J_:(prog.info? 282).map (λi=>(i.zero,i.size,i.bytes))=some (some (.agg #[.int .i64 0,.int .u8 0,.slice none 0 0]),3,40):=by kernel_rfl
def AW(w:World)(tb:Nat)(s sg:Int)(ac:Value):Prop:=w.heap[tb]? =some (.cells #[.int .i64 s,.int .u8 sg,ac] 282 (0,0))
section
variable {w:World} {tb:Nat} {s sg:Int} {ac:Value}
theorem AW.cell(h:AW w tb s sg ac)(i:Nat):w.cell? ⟨tb,i,none⟩= #[.int .i64 s,.int .u8 sg,ac][i]?:=by unfold AW at h;simp[World.cell?,h]
theorem AW.free(h:AW w tb s sg ac)(i:Nat):w.frozen? ⟨tb,i,none⟩=false:=by unfold AW at h;simp[World.frozen?,h]
theorem AW.yc(h:AW w tb s sg ac)(x:Value):AW (w.setCell ⟨tb,2,none⟩ x) tb s sg x:=by unfold AW at*;rw[ak _ h];rfl
theorem AW.az{S:Nat->Prop}{w':World}(h:AW w tb s sg ac)(k:Kp S w w')(hs:¬S tb):AW w' tb s sg ac:=Kp.at_ k h hs
theorem AW.lt(h:AW w tb s sg ac):tb<w.heap.size:=aR h
theorem AW.ne{b:Nat}{t:ByteArray}{p:Nat}{e f sv tv bv uv:Value}(h:AW w tb s sg ac)(k:dG w b t p e f sv tv bv uv):tb≠b:=by
 grind[AW,dG]
end
def Ch.block(t:ByteArray)(D:Int)(r:Rs):Bool×Rs:=
 if(bD t 59 (r.pos+1)).1 then(true,{r with pos:=(bD t 59 (r.pos+1)).2.2,eR:=r.eR++[⟨D,ag t r.pos,(bD t 59 (r.pos+1)).2.1⟩]})
 else(false,{r with pos:=(bD t 59 (r.pos+1)).2.2})
section
variable (B b:Nat) (t:ByteArray) (w:World)
theorem tA(D:Int)(r:Rs)(H:Rd w B b t r)(hd:Bd r)(hp:r.pos<t.size)(ht:t.size<=240):
 Calls prog 215 #[.pointer (some ⟨b,0,none⟩),.int .i64 D] w λx w'=>x= .returned (.bool (Ch.block t D r).1)/\Rd w' B b t (Ch.block t D r).2/\Below B w w':=by
 obtain⟨sv,tv,bv,uv,lt,lb,h⟩:=H;obtain⟨d1,d2,d3,d4⟩:=hd;have a3:=h.bK;have ha:=u9 (t:=t) (cl:=59) (p:=r.pos+1) (by omega)
 cases q3:(bD t 59 (r.pos+1)).1 with
 |false=>
  rw[show Ch.block t D r=(false,{r with pos:=(bD t 59 (r.pos+1)).2.2})by simp[Ch.block,q3]];have q3:=af q3
  go_enter func215,ntmps215
  go_wp2_with fail
  refine(bC b t r.pos _ h.bO.text h.bO.pos).mono ?_;rintro x I ⟨rfl,n1,rfl⟩;have F:=h.bO.drewN n1;have G:Kp (λk=>k=b) w (w.drewN n1):=(Kp.refl _ _).drewN _;generalize w.drewN n1=I at F G⊢
  have aa:=λo=>(F.alloc o).pos
  have ad:=λo=>(F.alloc o).free 1
  have aj:=F.lt;have O:=af (ae F G);clear F G
  go_wp2_with fail
  obtain⟨F,G⟩:=O.out;clear O aa ad
  have Z:AW ((I.setCell ⟨b,1,none⟩ (.int .i64 ((r.pos:Int)+1))).alloc (.cells #[.int .i64 D,.int .u8 (ag t r.pos),.slice none 0 0] 282)) I.heap.size D (ag t r.pos) (.slice none 0 0):=by
   have e:=an (I.setCell ⟨b,1,none⟩ (.int .i64 ((r.pos:Int)+1))) (.cells #[.int .i64 D,.int .u8 (ag t r.pos),.slice none 0 0] 282);rw[World.size_setCell]at e;exact e
  have R2:=F.step.alloc (.cells #[.int .i64 D,.int .u8 (ag t r.pos),.slice none 0 0] 282);have K2:Kp _ _ ((I.setCell ⟨b,1,none⟩ (.int .i64 ((r.pos:Int)+1))).alloc (.cells #[.int .i64 D,.int .u8 (ag t r.pos),.slice none 0 0] 282)):=(G.setCell (by intro _;rfl) _).alloc _;have iG:=G.size;generalize ((I.setCell ⟨b,1,none⟩ (.int .i64 ((r.pos:Int)+1))).alloc (.cells #[.int .i64 D,.int .u8 (ag t r.pos),.slice none 0 0] 282))=w2 at Z R2 K2⊢;generalize I.heap.size=tb at Z iG aj⊢;clear F G;have E:=u_ b t (r.pos+1) (.int .i64 0) (.int .i64 0) sv tv bv uv w2 59 R2 (by omega) ht (by decide);rw[q3.out]at E;refine bu E ?_;rintro x w5 ⟨av,rfl,R5,A5,Kx,_⟩;have J:=Z.ne R2;have T5:=Z.az Kx J;have K5:=K2.trans Kx;have aS:=K2.size;clear E Kx Z R2 K2;go_wp2;go_ret;exact⟨rfl,⟨_,_,_,_,_,_,h.move K5 (λ_ _ x=>x) R5⟩,K5.below h.bK (λk x=>h.low (Or.inl x))⟩
 |true=>?_
 rw[show Ch.block t D r=(true,{r with pos:=(bD t 59 (r.pos+1)).2.2,eR:=r.eR++[⟨D,ag t r.pos,(bD t 59 (r.pos+1)).2.1⟩]})by simp[Ch.block,q3]];have q3:=af q3
 go_enter func215,ntmps215
 go_wp2_with fail
 refine(bC b t r.pos _ h.bO.text h.bO.pos).mono ?_;rintro x I ⟨rfl,n1,rfl⟩;have F:=h.bO.drewN n1;have G:Kp (λk=>k=b) w (w.drewN n1):=(Kp.refl _ _).drewN _;generalize w.drewN n1=I at F G⊢
 have aa:=λo=>(F.alloc o).pos
 have ad:=λo=>(F.alloc o).free 1
 have aj:=F.lt;have O:=af (ae F G);clear F G
 go_wp2_with fail
 obtain⟨F,G⟩:=O.out;clear O aa ad
 have Z:AW ((I.setCell ⟨b,1,none⟩ (.int .i64 ((r.pos:Int)+1))).alloc (.cells #[.int .i64 D,.int .u8 (ag t r.pos),.slice none 0 0] 282)) I.heap.size D (ag t r.pos) (.slice none 0 0):=by
  have e:=an (I.setCell ⟨b,1,none⟩ (.int .i64 ((r.pos:Int)+1))) (.cells #[.int .i64 D,.int .u8 (ag t r.pos),.slice none 0 0] 282);rw[World.size_setCell]at e;exact e
 have R2:=F.step.alloc (.cells #[.int .i64 D,.int .u8 (ag t r.pos),.slice none 0 0] 282);have K2:Kp _ _ ((I.setCell ⟨b,1,none⟩ (.int .i64 ((r.pos:Int)+1))).alloc (.cells #[.int .i64 D,.int .u8 (ag t r.pos),.slice none 0 0] 282)):=(G.setCell (by intro _;rfl) _).alloc _;have iG:=G.size;generalize ((I.setCell ⟨b,1,none⟩ (.int .i64 ((r.pos:Int)+1))).alloc (.cells #[.int .i64 D,.int .u8 (ag t r.pos),.slice none 0 0] 282))=w2 at Z R2 K2⊢;generalize I.heap.size=tb at Z iG aj⊢;clear F G;have E:=u_ b t (r.pos+1) (.int .i64 0) (.int .i64 0) sv tv bv uv w2 59 R2 (by omega) ht (by decide);rw[q3.out]at E;refine bu E ?_;rintro x w5 ⟨av,rfl,R5,A5,Kx,_⟩;have J:=Z.ne R2;have T5:=Z.az Kx J;have K5:=K2.trans Kx;have aS:=K2.size;clear E Kx Z R2 K2;obtain⟨ao,am,zX,rfl⟩:=gL A5;have cc:=T5.cell 2;have ff:=T5.free 2;simp only[gf,gh,gq]at cc;have O:=af (ae R5 (ae T5 (ae K5 A5)));clear R5 T5 K5 A5
 go_upto_region 7 with(fail)
 obtain⟨R5,T5,K5,A5⟩:=O.out;clear O cc ff;have U:=R5.xz J 2 (.slice ao am zX);have T8:=T5.yc (.slice ao am zX);have K8:Kp _ _ (w5.setCell ⟨tb,2,none⟩ (.slice ao am zX)):=K5.setCell (by intro x;exact absurd x (by show¬tb<_;omega)) _;have X:=k8 A5 (a:=⟨tb,2,none⟩) (aZ A5 T5 (by decide)) (.slice ao am zX);generalize w5.setCell ⟨tb,2,none⟩ (.slice ao am zX)=w8 at U T8 K8 X⊢;clear R5 T5 K5 A5;have Y:=h.move K8 (λ_ _ x=>x) U;have B8:=K8.below h.bK (λk x=>h.low (Or.inl x));have X:=dY X (show B<=w2.heap.size by omega)
 have Z3:lb.length<=r.pos:=by have:=gr List.length h.I8;simp at this;omega
 obtain⟨i0,hi,a0,a1,a2⟩:=bY J_
 obtain⟨pa,F_⟩:∃x,(bD t 59 (r.pos+1)).2.2=x:=⟨_,rfl⟩
 obtain⟨la,ap⟩:∃x,(bD t 59 (r.pos+1)).2.1=x:=⟨_,rfl⟩
 rw[F_]at U Y ha;rw[ap]at X;have HP:=af (ae F_ ap);clear F_ ap q3 K8 h;have m0:=T8.cell 0;have m1:=T8.cell 1;have m2:=T8.cell 2;simp only[gf,gh,gq]at m0 m1 m2;have c6:=U.c6
 have aI:=λo=>(U.alloc o).c6
 have f6:=U.free 6;have aO:=af (aZ Y.eR U (by decide));have ND:=af Y.bK;have O:=af (ae U (ae Y (ae X B8)));clear U Y X T8 B8
 go_region_law (refine gZ rfl (.tmp 33) (.tmp 35) 85 rfl B 282 i0 (.agg #[.int .i64 0,.int .u8 0,.slice none 0 0]) 3 40 underlying85 hi a0 a1 a2 rfl (by decide) bv lb.length (qU lb) (by simp[Act.eval]) (by exact O.out.2.1.eR.alloc _) ⟨w8.heap.size,0,none⟩ 1 1 [.int .i64 D,.int .u8 (ag t r.pos),.slice ao am zX] (by simp[Act.eval]) rfl (by exact fQ _ _ _) (by intro u hu;simp at hu;rcases hu with rfl|rfl|rfl<;>rfl) (by decide) (by unfold maxLen;omega) (by omega) (by have:=ND.out;simp;omega) ?_;intro g cap w9 o9 g9;have R9:dG w9 b t pa (.int .i64 0) (.int .i64 0) sv tv bv uv:=dG.grown (by exact O.out.1.alloc (.cells #[.int .i64 D,.int .u8 (ag t r.pos),.slice ao am zX] 282)) g9 aO.out;have K9:Kp (λk=>k=b\/bv.ownBlock=some k) w8 w9:=Kp.grown (by exact((Kp.refl _ _).alloc (.cells #[.int .i64 D,.int .u8 (ag t r.pos),.slice ao am zX] 282)).drew) g9 (λk hk _=>Or.inr hk);have x1:=R9.c6;have x2:=R9.free 6;have H9:=af (ae R9 (ae o9 K9));clear R9 o9 K9 g9)
 all_goals
  obtain⟨R9,o9,K9⟩:=H9.out;obtain⟨U,Y,X,B8⟩:=O.out;clear x1 x2 H9 O m0 m1 m2 c6 aI f6;have Ra:=R9.ya (.slice (some ⟨g,0,none⟩) (lb.length+1) cap);have Oa:=k8 o9 (a:=⟨b,6,none⟩) (aZ o9 R9 (by decide)) (.slice (some ⟨g,0,none⟩) (lb.length+1) cap);have Ka:Kp _ _ (w9.setCell ⟨b,6,none⟩ (.slice (some ⟨g,0,none⟩) (lb.length+1) cap)):=K9.setCell (by intro _;exact Or.inl rfl) _;generalize w9.setCell ⟨b,6,none⟩ (.slice (some ⟨g,0,none⟩) (lb.length+1) cap)=wa at Ra Oa Ka⊢;have Aa:=Ka.owns X (λk hk x=>by rcases x with x|x;subst x;exact aZ X U (by decide) hk;exact dp X Y.eR (by decide) k hk x);have Fa:=Y.Z1 Ka (λ_ _ x=>x) (x:=(⟨D,ag t r.pos,la⟩,.slice ao am zX)) Ra (by rw[B7];simpa using Oa) Aa;have Ba:=B8.trans (Ka.below Y.bK (λk x=>Y.low (by rcases x with x|x;exact Or.inl x;exact Or.inr (Or.inr (Or.inr (Or.inl x))))));clear R9 o9 K9 U Y X B8 Ka Oa Ra Aa;go_wp2;go_ret;obtain⟨e1,e2⟩:=HP.out;rw[e1,e2];exact⟨rfl,⟨_,_,_,_,_,_,Fa⟩,Ba⟩
end
theorem ahA:(prog.info? 155).map (λi=>(i.zero,i.size,i.bytes))=some (some (.agg #[.int .u8 0,.int .i64 0,.int .i64 0,.int .i64 0]),4,32):=by kernel_rfl
def Ch.bU(parent:Int)(ss:List St):List St:=
 match parent with
 | .ofNat k=>match ss[k]? with
   |some s=>if s.kind==1 then ss.set k {s with kind:=2}else ss
   |none=>ss
 | .negSucc _=>ss
theorem yd(ss:List St)(k:Nat)(s:St)(h:ss[k]? =some s):
 (fB ss)[k*4]? =some (.int .u8 s.name)/\(fB ss)[k*4+1]? =some (.int .i64 s.pos)/\(fB ss)[k*4+2]? =some (.int .i64 s.kind)/\(fB ss)[k*4+3]? =some (.int .i64 s.parent):=by
 induction ss generalizing k with
 |nil=>simp_all
 |cons a l D=>?_
 cases k with
 |zero=>grind[fB]
 |succ k=>?_
 grind[fB]
theorem Dq(ss:List St)(k:Nat)(s:St)(x:Int)(h:ss[k]? =some s):(fB ss).set (k*4+2) (.int .i64 x)=fB (ss.set k {s with kind:=x}):=by
 induction ss generalizing k with
 |nil=>simp_all
 |cons a l D=>?_
 have e:∀(a:St) l,fB (a::l)= .int .u8 a.name:: .int .i64 a.pos:: .int .i64 a.kind:: .int .i64 a.parent::fB l:=by intro a l;simp[fB]
 cases k with
 |zero=>simp_all
 |succ k=>?_
 grind
section
variable (B b:Nat) (t:ByteArray) (p:Nat) (e f sv tv bv uv:Value) (w:World)
theorem ye(parent:Int)(ss:List St)(h:dG w b t p e f sv tv bv uv)(D:w.ownsRow B 155 4 sv ss.length (fB ss))(hl:ss.length<=1000):
 Calls prog 213 #[.pointer (some ⟨b,0,none⟩),.int .i64 parent] w λx w'=>x= .returned (.tuple #[])/\dG w' b t p e f sv tv bv uv/\
  w'.ownsRow B 155 4 sv (bU parent ss).length (fB (bU parent ss))/\Kp (λk=>k=b\/sv.ownBlock=some k) w w':=by
 have c4:=h.c4
 by_cases F:parent<0
 ·have e0:bU parent ss=ss:=by
   cases parent with
   |ofNat k=>exact absurd F (by simp)
   |negSucc k=>rfl
  rw[e0];have H:=af (ae h D);clear h D e0
  go_enter func213,ntmps213
  go_wp2;refine bg (k9 rfl _ _ _) rfl ?_;exact⟨rfl,H.out.1,H.out.2,Kp.refl _ _⟩
 obtain⟨k,rfl⟩:∃k:Nat,parent=(k:Int):=⟨parent.toNat,by omega⟩
 by_cases I:k<ss.length
 ·obtain⟨g,cap,rfl⟩:=ij D (by omega)
  obtain⟨s,hs⟩:∃s,ss[k]? =some s:=⟨_,ar I⟩
  have cz:=D.cellAt (k*4+2) (by omega);rw[(yd ss k s hs).2.2.1]at cz;have fz:=D.frozenAt (k*4+2)
  have X:decide ((k:Int)<0)=false:=by simp
  have Z:(k:Int)<(ss.length:Int):=by omega
  have H:=af (ae h (ae D hs));clear h D hs F
  cases hk:s.kind==1 with
  |false=>
   have E:=af (show bU (k:Int) ss=ss by show(match ss[k]? with|some s=>_|none=>_)=_;rw[H.out.2.2];simp[hk])
   go_enter func213,ntmps213
   go_wp2
   go_end0
   rw[E.out];exact⟨rfl,H.out.1,H.out.2.1,Kp.refl _ _⟩
  |true=>?_
  have E:=af (show bU (k:Int) ss=ss.set k {s with kind:=2}by show(match ss[k]? with|some s=>_|none=>_)=_;rw[H.out.2.2];simp[hk]);have G:=af (aZ H.out.2.1 H.out.1 (by decide))
  go_enter func213,ntmps213
  go_wp2
  go_end0
  rw[E.out];obtain⟨h,D,hs⟩:=H.out;have J:=(D.stored (k*4+2) (.int .i64 2)).1;rw[Dq ss k s 2 hs]at J;refine⟨rfl,h.xz (λx=>G.out (by simp[Value.ownBlock,x])) _ _,by simpa using J,(Kp.refl _ _).setCell (by intro _;exact Or.inr rfl) _⟩
 have e0:bU (k:Int) ss=ss:=by show(match ss[k]? with|some s=>_|none=>_)=_;rw[List.getElem?_eq_none (by omega)]
 rw[e0];obtain⟨ao,O,zX,rfl⟩:=gL D
 have hm:O=ss.length:=by
  rcases D.2 with⟨x,y⟩|⟨g,cp,U,x,_⟩
  ·simp at x;omega
  simp at x;omega
 subst hm
 have X:decide ((k:Int)<0)=false:=by simp
 have Y:(ss.length:Int)<=(k:Int):=by omega
 have H:=af (ae h D);clear h D e0 I F
 go_enter func213,ntmps213
 go_wp2;refine bg (k9 rfl _ _ _) rfl ?_;exact⟨rfl,H.out.1,H.out.2,Kp.refl _ _⟩
def Ch.bh(t:ByteArray)(op parent:Int)(r:Rs):Bool×Rs:=
 if dS (ag t r.pos)then(true,{r with pos:=r.pos+1,ai:=bU parent (r.ai++[⟨ag t r.pos,r.pos,eH op,parent⟩])})else(false,r)
theorem Ch.gQ(parent:Int)(ss:List St):(bU parent ss).length=ss.length:=by
 unfold bU;split
 ·grind
 rfl
theorem kz(op parent:Int)(r:Rs)(H:Rd w B b t r)(hd:Bd r)(ht:t.size<=240)(hp:r.pos<=t.size):
 Calls prog 155 #[.pointer (some ⟨b,0,none⟩),.int .u8 op,.int .i64 parent] w λx w'=>x= .returned (.bool (bh t op parent r).1)/\Rd w' B b t (bh t op parent r).2/\Below B w w':=by
 obtain⟨sv,tv,bv,uv,lt,lb,h⟩:=H;obtain⟨d1,d2,d3,d4⟩:=hd;have ao:=h.bK
 cases J:dS (ag t r.pos)with
 |false=>
  rw[show bh t op parent r=(false,r)by simp[bh,J]];have J:=af J
  go_enter func155,ntmps155
  go_wp2_with fail
  refine(bC b t r.pos _ h.bO.text h.bO.pos).mono ?_;rintro x w1 ⟨rfl,I,rfl⟩
  go_wp2_with fail
  have E:=jK (ag t r.pos) (w.drewN I);rw[J.out]at E;refine bu E ?_;rintro x w2 ⟨rfl,rfl⟩;go_wp2;go_ret;have O:Kp (λk=>k=b) w (w.drewN I):=(Kp.refl _ _).drewN _;exact⟨rfl,⟨_,_,_,_,_,_,h.move O (λ_ _ x=>x) (h.bO.drewN I)⟩,O.below h.bK (λk x=>h.low (Or.inl x))⟩
 |true=>?_
 rw[show bh t op parent r=(true,{r with pos:=r.pos+1,ai:=bU parent (r.ai++[⟨ag t r.pos,r.pos,eH op,parent⟩])})by simp[bh,J]];have J:=af J;obtain⟨i0,hi,ad,aj,am⟩:=bY ahA
 go_enter func155,ntmps155
 go_wp2_with fail
 refine(bC b t r.pos _ h.bO.text h.bO.pos).mono ?_;rintro x w1 ⟨rfl,I,rfl⟩
 go_wp2_with fail
 have E:=jK (ag t r.pos) (w.drewN I);rw[J.out]at E;refine bu E ?_;rintro x w2 ⟨rfl,rfl⟩;clear E
 go_wp2_with fail
 refine(Gt op _).mono ?_;rintro x w2 ⟨rfl,rfl⟩;have O:Kp (λk=>k=b) w (w.drewN I):=(Kp.refl _ _).drewN _;have U:=h.move O (λ_ _ x=>x) (h.bO.drewN I);have B1:=O.below h.bK (λk x=>h.low (Or.inl x));generalize w.drewN I=w8 at O U B1⊢;have F:=U.bO;have c1:=F.pos;have c4:=F.c4
 have Z5:=λo=>(F.alloc o).c4
 have f4:=F.free 4;have aa:=af (aZ U.ai F (by decide));have ND:=af U.bK;have Y:=af (ae F (ae U B1));clear F U O B1 h
 go_upto_region 5 with(fail)
 go_region_law (refine gZ rfl (.tmp 21) (.tmp 30) 83 rfl B 155 i0 (.agg #[.int .u8 0,.int .i64 0,.int .i64 0,.int .i64 0]) 4 32 underlying83 hi ad aj am rfl (by decide) sv r.ai.length (fB r.ai) (by simp[Act.eval]) (by exact Y.out.2.1.ai.alloc _) ⟨w8.heap.size,0,none⟩ 1 1 [.int .u8 (ag t r.pos),.int .i64 r.pos,.int .i64 (eH op),.int .i64 parent] (by simp[Act.eval]) rfl (by exact fQ _ _ _) (by intro u hu;simp at hu;rcases hu with rfl|rfl|rfl|rfl<;>rfl) (by decide) (by unfold maxLen;omega) (by omega) (by have:=ND.out;simp;omega) ?_;intro g cap w9 Z g9;have G:dG w9 b t r.pos (.int .i64 0) (.int .i64 0) sv tv bv uv:=dG.grown (by exact Y.out.1.alloc (.cells #[.int .u8 (ag t r.pos),.int .i64 r.pos,.int .i64 (eH op),.int .i64 parent] 155)) g9 aa.out;have K9:Kp (λk=>k=b\/sv.ownBlock=some k) w8 w9:=Kp.grown (by exact((Kp.refl _ _).alloc (.cells #[.int .u8 (ag t r.pos),.int .i64 r.pos,.int .i64 (eH op),.int .i64 parent] 155)).drew) g9 (λk hk _=>Or.inr hk);have x1:=G.c4;have x2:=G.free 4;have H9:=af (ae G (ae Z K9));clear G Z K9 g9)
 all_goals
  obtain⟨G,Z,K9⟩:=H9.out;obtain⟨F,F8,B8⟩:=Y.out;clear x1 x2 H9 Y c1 c4 Z5 f4;have Ra:=G.Uy (.slice (some ⟨g,0,none⟩) (r.ai.length+1) cap);have Oa:=k8 Z (a:=⟨b,4,none⟩) (aZ Z G (by decide)) (.slice (some ⟨g,0,none⟩) (r.ai.length+1) cap);have Ka:Kp _ _ (w9.setCell ⟨b,4,none⟩ (.slice (some ⟨g,0,none⟩) (r.ai.length+1) cap)):=K9.setCell (by intro _;exact Or.inl rfl) _;generalize w9.setCell ⟨b,4,none⟩ (.slice (some ⟨g,0,none⟩) (r.ai.length+1) cap)=wa at Ra Oa Ka⊢;have X:=F8.WH Ka (λ_ _ x=>x) (ss:=r.ai++[⟨ag t r.pos,r.pos,eH op,parent⟩]) Ra (by rw[BZ];simpa using Oa);have Ba:=B8.trans (Ka.below F8.bK (λk x=>F8.low (by rcases x with x|x;exact Or.inl x;exact Or.inr (Or.inl x))));clear G Z K9 F F8 B8 Ka Oa Ra
  go_wp2_with fail
  refine(ye B b t r.pos (.int .i64 0) (.int .i64 0) _ tv bv uv wa parent _ X.bO X.ai (by simp;omega)).mono ?_;rintro x wb ⟨rfl,Rb,Ob,Kb⟩;have D:=X.WH Kb (λ_ _ x=>x) Rb Ob;have Bb:=Ba.trans (Kb.below X.bK (λk x=>X.low (by rcases x with x|x;exact Or.inl x;exact Or.inr (Or.inl x))));clear Rb Ob Kb X Ba;have y1:=D.bO.pos;have y2:=D.bO.free 1;have Y:=af (ae D Bb);clear D Bb;go_wp2;go_ret;obtain⟨D,Bb⟩:=Y.out;have Kc:Kp (λk=>k=b) wb (wb.setCell ⟨b,1,none⟩ (.int .i64 ((r.pos:Int)+1))):=(Kp.refl _ _).setCell (by intro _;rfl) _;exact⟨rfl,⟨_,_,_,_,_,_,D.move Kc (λ_ _ x=>x) D.bO.step⟩,Bb.trans (Kc.below D.bK (λk x=>D.low (Or.inl x)))⟩
end
def Ch.dz(c:Int):Bool:=c==40||c==91||c==60||c==42
def Ch.bL(t:ByteArray)(it:Int->Int->Rs->Bool×Rs)(parent:Int)(r:Rs):Bool×Rs:=
 if(bh t (ag t r.pos) parent {r with pos:=r.pos+1}).1 then
  if ag t r.pos==40 then it r.ai.length 41 (bh t (ag t r.pos) parent {r with pos:=r.pos+1}).2
  else if ag t r.pos==91 then it r.ai.length 93 (bh t (ag t r.pos) parent {r with pos:=r.pos+1}).2
  else if ag t r.pos==60 then
   (ag t (bh t (ag t r.pos) parent {r with pos:=r.pos+1}).2.pos==62,
    {(bh t (ag t r.pos) parent {r with pos:=r.pos+1}).2 with
     pos:=cL (ag t (bh t (ag t r.pos) parent {r with pos:=r.pos+1}).2.pos==62) (bh t (ag t r.pos) parent {r with pos:=r.pos+1}).2.pos})
  else(true,(bh t (ag t r.pos) parent {r with pos:=r.pos+1}).2)
 else(false,(bh t (ag t r.pos) parent {r with pos:=r.pos+1}).2)
def Ch.aP(t:ByteArray):Nat->Int->Int->Rs->Bool×Rs
 |0=>λ_ _ r=>(false,r)
 |n+1=>λself cl r=>
  if dz (ag t r.pos)then
   if(bL t (aP t n) self r).1 then aP t n self cl (bL t (aP t n) self r).2 else(false,(bL t (aP t n) self r).2)
  else if ag t r.pos==58 then
   if(transition t self r).1 then aP t n self cl (transition t self r).2 else(false,(transition t self r).2)
  else if ag t r.pos==94||ag t r.pos==36 then
   if(Ch.block t self r).1 then aP t n self cl (Ch.block t self r).2 else(false,(Ch.block t self r).2)
  else(ag t r.pos==cl,{r with pos:=cL (ag t r.pos==cl) r.pos})
def Ch.Ok(t:ByteArray)(r:Rs):Prop:=Bd r/\r.pos<=t.size
theorem Ch.jk{t:ByteArray}{r:Rs}(D:Int)(O:r.pos<t.size)(h:Ok t r):Ok t (transition t D r).2/\r.pos<(transition t D r).2.pos:=by
 obtain⟨⟨d1,d2,d3,d4⟩,_⟩:=h;unfold transition;have Y:=sh (ag t (r.pos+1)) (r.pos+1) r.cN
 split
 ·rename_i q1
  have U:r.pos+1<t.size:=by
   grind[cY,mF,ez,dS]
  have I:=sf (t:=t) (p:=r.pos+1+1) ⟨0,0,0⟩ (by omega);generalize Ch.guard t (r.pos+1+1) ⟨0,0,0⟩=F at*;have G:=u9 (t:=t) (cl:=62) (p:=F.2.2) I.2;generalize bD t 62 F.2.2=E at*
  split
  ·split
   ·have Z:=sh (ag t E.2.2) E.2.2 (dJ (ag t (r.pos+1)) (r.pos+1) r.cN)
    have J:=jJ (t:=t) (ok:=ns (ag t E.2.2)) (p:=E.2.2) G.2 (λq=>by
     rcases jA E.2.2 t.size with x|x
     ·exact x
     rw[cY x]at q;simp[ns,dS]at q)
    have X:=lM (ns (ag t E.2.2)) E.2.2
    refine⟨⟨⟨?_,?_,?_,?_⟩,J⟩,?_⟩<;>simp only[gu,eh,jB]<;>omega
   refine⟨⟨⟨?_,?_,?_,?_⟩,G.2⟩,?_⟩<;>simp only<;>omega
  refine⟨⟨⟨?_,?_,?_,?_⟩,I.2⟩,?_⟩<;>simp only<;>omega
 refine⟨⟨⟨?_,?_,?_,?_⟩,?_⟩,?_⟩<;>simp only<;>omega
theorem Ch.p_{t:ByteArray}{r:Rs}(D:Int)(F:r.pos<t.size)(h:Ok t r):Ok t (Ch.block t D r).2/\r.pos<(Ch.block t D r).2.pos:=by
 obtain⟨⟨d1,d2,d3,d4⟩,_⟩:=h;have E:=u9 (t:=t) (cl:=59) (p:=r.pos+1) (by omega);unfold Ch.block
 split
 ·refine⟨⟨⟨?_,?_,?_,?_⟩,E.2⟩,?_⟩<;>simp only[gu,eh,jB]<;>omega
 refine⟨⟨⟨?_,?_,?_,?_⟩,E.2⟩,?_⟩<;>simp only<;>omega
theorem Ch.lk{t:ByteArray}{r:Rs}(op parent:Int)(h:Ok t r):Ok t (bh t op parent r).2/\r.pos<=(bh t op parent r).2.pos:=by
 obtain⟨⟨d1,d2,d3,d4⟩,D⟩:=h;unfold bh
 split
 ·rename_i q
  have:=lO q
  refine⟨⟨⟨?_,?_,?_,?_⟩,?_⟩,?_⟩<;>simp only[gQ,gu,eh,jB]<;>omega
 exact⟨⟨⟨d1,d2,d3,d4⟩,D⟩,aC _⟩
theorem Ch.jl{t:ByteArray}{r:Rs}{it:Int->Int->Rs->Bool×Rs}(Ga:∀a c s,c≠0->Ok t s->Ok t (it a c s).2/\s.pos<=(it a c s).2.pos)(parent:Int)(O:r.pos<t.size)(h:Ok t r):
 Ok t (bL t it parent r).2/\r.pos<(bL t it parent r).2.pos:=by
 obtain⟨⟨d1,d2,d3,d4⟩,J⟩:=h;have F:=lk (t:=t) (r:={r with pos:=r.pos+1}) (ag t r.pos) parent ⟨⟨by simp only;omega,by simp only;omega,by simp only;omega,by simp only;omega⟩,by simp only;omega⟩;unfold bL;generalize bh t (ag t r.pos) parent {r with pos:=r.pos+1}=s at*;obtain⟨hs,D⟩:=F;simp only at D
 split
 ·split
  ·grind
  split
  ·grind
  split
  ·obtain⟨⟨e1,e2,e3,I⟩,E⟩:=hs
   have G:=jJ (t:=t) (ok:=ag t s.2.pos==62) (p:=s.2.pos) E (dy (by decide));have U:=lM (ag t s.2.pos==62) s.2.pos
   refine⟨⟨⟨?_,?_,?_,?_⟩,G⟩,?_⟩<;>simp only<;>omega
  grind
 grind
theorem Ch.jM{t:ByteArray}{p:Nat}(h:dz (ag t p)=true):p<t.size:=by
 grind[cY,dz]
theorem Ch.jZ{t:ByteArray}:∀(n:Nat) (D cl:Int) (r:Rs),cl≠0->Ok t r->Ok t (aP t n D cl r).2/\r.pos<=(aP t n D cl r).2.pos:=by
 intro n
 induction n with
 |zero=>intro D cl r _ h;exact⟨h,aC _⟩
 |succ n J=>?_
 intro D cl r E h;simp only[aP]
 split
 ·grind[jl,jM,bL,aP]
 split
 ·rename_i q
  have hs:=jk D (dy (by decide) q) h;grind
 split
 ·grind[cY,p_,Ch.block]
 obtain⟨⟨e1,e2,e3,I⟩,F⟩:=h;have G:=jJ (t:=t) (ok:=ag t r.pos==cl) (p:=r.pos) F (dy E);have O:=lM (ag t r.pos==cl) r.pos
 refine⟨⟨⟨?_,?_,?_,?_⟩,G⟩,?_⟩<;>simp only<;>omega
theorem bn{w:World}{base:Nat}{e:TypeId}{size:Nat}{v:Value}{n:Nat}{xs:List Value}(h:w.ownsRow base e size v n xs):∃D cap,v= .slice D n cap:=by
 rcases h.2 with⟨E,rfl⟩|⟨g,cap,_,E,_⟩
 ·simp_all
 simp_all
def I9(B b:Nat)(t:ByteArray)(m:Nat):Prop:=∀(w:World) (r:Rs) (D cl:Int),Rd w B b t r->Ok t r->cl≠0->t.size+1<=m+r.pos->
 Calls prog 156 #[.pointer (some ⟨b,0,none⟩),.int .i64 D,.int .u8 cl] w λx w'=>x= .returned (.bool (aP t m D cl r).1)/\Rd w' B b t (aP t m D cl r).2/\Below B w w'
section
variable (B b:Nat) (t:ByteArray)
theorem g7(m:Nat)(Ga:I9 B b t m)(w:World)(r:Rs)(parent:Int)(H:Rd w B b t r)(eD:Ok t r)(hp:r.pos<t.size)(hm:t.size<=m+r.pos)(ht:t.size<=240):
 Calls prog 111 #[.pointer (some ⟨b,0,none⟩),.int .i64 parent] w λx w'=>x= .returned (.bool (bL t (aP t m) parent r).1)/\Rd w' B b t (bL t (aP t m) parent r).2/\Below B w w':=by
 obtain⟨sv,tv,bv,uv,lt,lb,h⟩:=H;obtain⟨⟨d1,d2,d3,d4⟩,_⟩:=eD;have hn:=lk (t:=t) (r:={r with pos:=r.pos+1}) (ag t r.pos) parent ⟨⟨by simp only;omega,by simp only;omega,by simp only;omega,by simp only;omega⟩,by simp only;omega⟩;have aI:r.pos+1<=(bh t (ag t r.pos) parent {r with pos:=r.pos+1}).2.pos:=hn.2;obtain⟨ao,zX,rfl⟩:=bn h.ai
 cases O:(bh t (ag t r.pos) parent {r with pos:=r.pos+1}).1 with
 |false=>
  rw[show bL t (aP t m) parent r=(false,(bh t (ag t r.pos) parent {r with pos:=r.pos+1}).2)by simp[bL,O]];have O:=af O
  go_enter func111,ntmps111
  go_wp2_with fail
  refine(bC b t r.pos _ h.bO.text h.bO.pos).mono ?_;rintro x J ⟨rfl,X,rfl⟩;have G:Kp (λk=>k=b) w (w.drewN X):=(Kp.refl _ _).drewN _;have D:=h.move G (λ_ _ x=>x) (h.bO.drewN X);have F:=G.below h.bK (λk x=>h.low (Or.inl x));generalize w.drewN X=J at G D F⊢;have c1:=D.bO.pos;have c4:=D.bO.c4;have f1:=D.bO.free 1;have Z:=af (ae D F);clear D F G
  go_wp2_with fail
  obtain⟨D,F⟩:=Z.out;clear Z c1 c4 f1;have I:Kp (λk=>k=b) J (J.setCell ⟨b,1,none⟩ (.int .i64 ((r.pos:Int)+1))):=(Kp.refl _ _).setCell (by intro _;rfl) _;have U:=D.move I (λ_ _ x=>x) D.bO.step;have B2:=F.trans (I.below D.bK (λk x=>D.low (Or.inl x)));generalize J.setCell ⟨b,1,none⟩ (.int .i64 ((r.pos:Int)+1))=w2 at I U B2⊢;clear D F I;have E:=kz B b t w2 (ag t r.pos) parent {r with pos:=r.pos+1} ⟨_,_,_,_,_,_,U⟩ ⟨by simp only;omega,by simp only;omega,by simp only;omega,by simp only;omega⟩ ht (by simp only;omega);rw[O.out]at E;refine bu E ?_;rintro x w3 ⟨rfl,R3,Y⟩;have B4:=B2.trans Y;clear E U B2 Y;go_wp2;go_ret;exact⟨rfl,R3,B4⟩
 |true=>?_
 cases sn:ag t r.pos==40 with
 |true=>
  rw[show bL t (aP t m) parent r=aP t m r.ai.length 41 (bh t (ag t r.pos) parent {r with pos:=r.pos+1}).2 by simp[bL,O,sn]];have O:=af O
  go_enter func111,ntmps111
  go_wp2_with fail
  refine(bC b t r.pos _ h.bO.text h.bO.pos).mono ?_;rintro x J ⟨rfl,X,rfl⟩;have G:Kp (λk=>k=b) w (w.drewN X):=(Kp.refl _ _).drewN _;have D:=h.move G (λ_ _ x=>x) (h.bO.drewN X);have F:=G.below h.bK (λk x=>h.low (Or.inl x));generalize w.drewN X=J at G D F⊢;have c1:=D.bO.pos;have c4:=D.bO.c4;have f1:=D.bO.free 1;have Z:=af (ae D F);clear D F G
  go_wp2_with fail
  obtain⟨D,F⟩:=Z.out;clear Z c1 c4 f1;have I:Kp (λk=>k=b) J (J.setCell ⟨b,1,none⟩ (.int .i64 ((r.pos:Int)+1))):=(Kp.refl _ _).setCell (by intro _;rfl) _;have U:=D.move I (λ_ _ x=>x) D.bO.step;have B2:=F.trans (I.below D.bK (λk x=>D.low (Or.inl x)));generalize J.setCell ⟨b,1,none⟩ (.int .i64 ((r.pos:Int)+1))=w2 at I U B2⊢;clear D F I;have E:=kz B b t w2 (ag t r.pos) parent {r with pos:=r.pos+1} ⟨_,_,_,_,_,_,U⟩ ⟨by simp only;omega,by simp only;omega,by simp only;omega,by simp only;omega⟩ ht (by simp only;omega);rw[O.out]at E;refine bu E ?_;rintro x w3 ⟨rfl,R3,Y⟩;have B4:=B2.trans Y;clear E U B2 Y
  go_wp2_with fail
  refine(Ga w3 _ _ 41 R3 hn.1 (by decide) (by omega)).mono ?_;rintro x w5 ⟨rfl,R5,B5⟩;go_wp2;go_ret;exact⟨rfl,R5,B4.trans B5⟩
 |false=>?_
 cases vU:ag t r.pos==91 with
 |true=>
  rw[show bL t (aP t m) parent r=aP t m r.ai.length 93 (bh t (ag t r.pos) parent {r with pos:=r.pos+1}).2 by simp[bL,O,sn,vU]];have O:=af O
  go_enter func111,ntmps111
  go_wp2_with fail
  refine(bC b t r.pos _ h.bO.text h.bO.pos).mono ?_;rintro x J ⟨rfl,X,rfl⟩;have G:Kp (λk=>k=b) w (w.drewN X):=(Kp.refl _ _).drewN _;have D:=h.move G (λ_ _ x=>x) (h.bO.drewN X);have F:=G.below h.bK (λk x=>h.low (Or.inl x));generalize w.drewN X=J at G D F⊢;have c1:=D.bO.pos;have c4:=D.bO.c4;have f1:=D.bO.free 1;have Z:=af (ae D F);clear D F G
  go_wp2_with fail
  obtain⟨D,F⟩:=Z.out;clear Z c1 c4 f1;have I:Kp (λk=>k=b) J (J.setCell ⟨b,1,none⟩ (.int .i64 ((r.pos:Int)+1))):=(Kp.refl _ _).setCell (by intro _;rfl) _;have U:=D.move I (λ_ _ x=>x) D.bO.step;have B2:=F.trans (I.below D.bK (λk x=>D.low (Or.inl x)));generalize J.setCell ⟨b,1,none⟩ (.int .i64 ((r.pos:Int)+1))=w2 at I U B2⊢;clear D F I;have E:=kz B b t w2 (ag t r.pos) parent {r with pos:=r.pos+1} ⟨_,_,_,_,_,_,U⟩ ⟨by simp only;omega,by simp only;omega,by simp only;omega,by simp only;omega⟩ ht (by simp only;omega);rw[O.out]at E;refine bu E ?_;rintro x w3 ⟨rfl,R3,Y⟩;have B4:=B2.trans Y;clear E U B2 Y
  go_wp2_with fail
  refine(Ga w3 _ _ 93 R3 hn.1 (by decide) (by omega)).mono ?_;rintro x w5 ⟨rfl,R5,B5⟩;go_wp2;go_ret;exact⟨rfl,R5,B4.trans B5⟩
 |false=>?_
 cases Gx:ag t r.pos==60 with
 |true=>
  rw[show bL t (aP t m) parent r=(ag t (bh t (ag t r.pos) parent {r with pos:=r.pos+1}).2.pos==62,{(bh t (ag t r.pos) parent {r with pos:=r.pos+1}).2 with pos:=cL (ag t (bh t (ag t r.pos) parent {r with pos:=r.pos+1}).2.pos==62) (bh t (ag t r.pos) parent {r with pos:=r.pos+1}).2.pos})by simp[bL,O,sn,vU,Gx]];have O:=af O
  go_enter func111,ntmps111
  go_wp2_with fail
  refine(bC b t r.pos _ h.bO.text h.bO.pos).mono ?_;rintro x J ⟨rfl,X,rfl⟩;have G:Kp (λk=>k=b) w (w.drewN X):=(Kp.refl _ _).drewN _;have D:=h.move G (λ_ _ x=>x) (h.bO.drewN X);have F:=G.below h.bK (λk x=>h.low (Or.inl x));generalize w.drewN X=J at G D F⊢;have c1:=D.bO.pos;have c4:=D.bO.c4;have f1:=D.bO.free 1;have Z:=af (ae D F);clear D F G
  go_wp2_with fail
  obtain⟨D,F⟩:=Z.out;clear Z c1 c4 f1;have I:Kp (λk=>k=b) J (J.setCell ⟨b,1,none⟩ (.int .i64 ((r.pos:Int)+1))):=(Kp.refl _ _).setCell (by intro _;rfl) _;have U:=D.move I (λ_ _ x=>x) D.bO.step;have B2:=F.trans (I.below D.bK (λk x=>D.low (Or.inl x)));generalize J.setCell ⟨b,1,none⟩ (.int .i64 ((r.pos:Int)+1))=w2 at I U B2⊢;clear D F I;have E:=kz B b t w2 (ag t r.pos) parent {r with pos:=r.pos+1} ⟨_,_,_,_,_,_,U⟩ ⟨by simp only;omega,by simp only;omega,by simp only;omega,by simp only;omega⟩ ht (by simp only;omega);rw[O.out]at E;refine bu E ?_;rintro x w3 ⟨rfl,R3,Y⟩;have B4:=B2.trans Y;clear E U B2 Y;obtain⟨ad,aj,aa,am,aS,aO,F3⟩:=R3;have ap:=hn.1.2
  go_wp2_with fail
  refine(pZ b t (bh t (ag t r.pos) parent {r with pos:=r.pos+1}).2.pos (.int .i64 0) (.int .i64 0) ad aj aa am w3 62 F3.bO (by omega)).mono ?_;rintro x w5 ⟨rfl,R5,K5⟩;have F5:=F3.move K5 (λ_ _ x=>x) R5;have B5:=B4.trans (K5.below F3.bK (λk x=>F3.low (Or.inl x)));go_wp2;go_ret;exact⟨rfl,⟨_,_,_,_,_,_,F5⟩,B5⟩
 |false=>?_
 rw[show bL t (aP t m) parent r=(true,(bh t (ag t r.pos) parent {r with pos:=r.pos+1}).2)by simp[bL,O,sn,vU,Gx]];have O:=af O
 go_enter func111,ntmps111
 go_wp2_with fail
 refine(bC b t r.pos _ h.bO.text h.bO.pos).mono ?_;rintro x J ⟨rfl,X,rfl⟩;have G:Kp (λk=>k=b) w (w.drewN X):=(Kp.refl _ _).drewN _;have D:=h.move G (λ_ _ x=>x) (h.bO.drewN X);have F:=G.below h.bK (λk x=>h.low (Or.inl x));generalize w.drewN X=J at G D F⊢;have c1:=D.bO.pos;have c4:=D.bO.c4;have f1:=D.bO.free 1;have Z:=af (ae D F);clear D F G
 go_wp2_with fail
 obtain⟨D,F⟩:=Z.out;clear Z c1 c4 f1;have I:Kp (λk=>k=b) J (J.setCell ⟨b,1,none⟩ (.int .i64 ((r.pos:Int)+1))):=(Kp.refl _ _).setCell (by intro _;rfl) _;have U:=D.move I (λ_ _ x=>x) D.bO.step;have B2:=F.trans (I.below D.bK (λk x=>D.low (Or.inl x)));generalize J.setCell ⟨b,1,none⟩ (.int .i64 ((r.pos:Int)+1))=w2 at I U B2⊢;clear D F I;have E:=kz B b t w2 (ag t r.pos) parent {r with pos:=r.pos+1} ⟨_,_,_,_,_,_,U⟩ ⟨by simp only;omega,by simp only;omega,by simp only;omega,by simp only;omega⟩ ht (by simp only;omega);rw[O.out]at E;refine bu E ?_;rintro x w3 ⟨rfl,R3,Y⟩;have B4:=B2.trans Y;clear E U B2 Y;go_wp2;go_ret;exact⟨rfl,R3,B4⟩
end
theorem tB(B b:Nat)(t:ByteArray)(ht:t.size<=240)(m:Nat):I9 B b t m:=by
 induction m using Nat.strongRecOn with
 |_ m ih=>
 intro w r D cl H eD aa hm
 go_enter func156,ntmps156
 go_wp2_with fail
 go_loopg [] m (λk wr=>∃G,Hid (aP t m D cl r=aP t k D cl G)/\Ok t G/\(t.size+1<=k+G.pos/\k<=m)/\Rd wr B b t G/\Below B w wr)
 case atStart=>exact⟨r,af rfl,eD,⟨hm,aC _⟩,H,Below.refl _ _⟩
 case round=>
  obtain⟨G,HE,X,⟨hk,ad⟩,⟨sv,tv,bv,uv,lt,lb,F⟩,B1⟩:=hrel;have aj:=X.2
  obtain⟨k,rfl⟩:∃k,gk=k+1:=⟨gk-1,by omega⟩
  clear H eD hm
  cases sn:ag t G.pos==40 with
  |true=>
   have U:=dy (c:=40) (by decide) sn;have hs:=jl (λa c s hc hs=>jZ k a c s hc hs) D U X
   cases Z:(bL t (aP t k) D G).1 with
   |false=>
    have HF:=af (HE.out.trans (show aP t (k+1) D cl G=(false,(bL t (aP t k) D G).2)by simp[aP,dz,sn,Z]))
    go_wp2_with fail
    refine(bC b t G.pos _ F.bO.text F.bO.pos).mono ?_;rintro x w1 ⟨rfl,O,rfl⟩;have I:Kp (λk=>k=b) wr (wr.drewN O):=(Kp.refl _ _).drewN _;have J:=F.move I (λ_ _ x=>x) (F.bO.drewN O);have B2:=B1.trans (I.below F.bK (λk x=>F.low (Or.inl x)));generalize wr.drewN O=w2 at I J B2⊢;clear I F B1
    go_wp2_with fail
    have E:=g7 B b t k (ih k (by omega)) w2 G D ⟨_,_,_,_,_,_,J⟩ X U (by omega) ht;rw[Z]at E;refine bu E ?_;rintro x w3 ⟨rfl,R3,Y⟩;have B4:=B2.trans Y;clear E J B2 Y;go_wp2;go_ret;rw[HF.out];exact⟨rfl,R3,B4⟩
   |true=>?_
   have HF:=af (HE.out.trans (show aP t (k+1) D cl G=aP t k D cl (bL t (aP t k) D G).2 by simp[aP,dz,sn,Z]))
   go_wp2_with fail
   refine(bC b t G.pos _ F.bO.text F.bO.pos).mono ?_;rintro x w1 ⟨rfl,O,rfl⟩;have I:Kp (λk=>k=b) wr (wr.drewN O):=(Kp.refl _ _).drewN _;have J:=F.move I (λ_ _ x=>x) (F.bO.drewN O);have B2:=B1.trans (I.below F.bK (λk x=>F.low (Or.inl x)));generalize wr.drewN O=w2 at I J B2⊢;clear I F B1
   go_wp2_with fail
   have E:=g7 B b t k (ih k (by omega)) w2 G D ⟨_,_,_,_,_,_,J⟩ X U (by omega) ht;rw[Z]at E;refine bu E ?_;rintro x w3 ⟨rfl,R3,Y⟩;have B4:=B2.trans Y;clear E J B2 Y;go_wp2
   go_roundg k
   case measure=>omega
   case rel=>exact⟨_,HF,hs.1,by omega,R3,B4⟩
  |false=>?_
  cases vU:ag t G.pos==91 with
  |true=>
   have U:=dy (c:=91) (by decide) vU;have hs:=jl (λa c s hc hs=>jZ k a c s hc hs) D U X
   cases Z:(bL t (aP t k) D G).1 with
   |false=>
    have HF:=af (HE.out.trans (show aP t (k+1) D cl G=(false,(bL t (aP t k) D G).2)by simp[aP,dz,sn,vU,Z]))
    go_wp2_with fail
    refine(bC b t G.pos _ F.bO.text F.bO.pos).mono ?_;rintro x w1 ⟨rfl,O,rfl⟩;have I:Kp (λk=>k=b) wr (wr.drewN O):=(Kp.refl _ _).drewN _;have J:=F.move I (λ_ _ x=>x) (F.bO.drewN O);have B2:=B1.trans (I.below F.bK (λk x=>F.low (Or.inl x)));generalize wr.drewN O=w2 at I J B2⊢;clear I F B1
    go_wp2_with fail
    have E:=g7 B b t k (ih k (by omega)) w2 G D ⟨_,_,_,_,_,_,J⟩ X U (by omega) ht;rw[Z]at E;refine bu E ?_;rintro x w3 ⟨rfl,R3,Y⟩;have B4:=B2.trans Y;clear E J B2 Y;go_wp2;go_ret;rw[HF.out];exact⟨rfl,R3,B4⟩
   |true=>?_
   have HF:=af (HE.out.trans (show aP t (k+1) D cl G=aP t k D cl (bL t (aP t k) D G).2 by simp[aP,dz,sn,vU,Z]))
   go_wp2_with fail
   refine(bC b t G.pos _ F.bO.text F.bO.pos).mono ?_;rintro x w1 ⟨rfl,O,rfl⟩;have I:Kp (λk=>k=b) wr (wr.drewN O):=(Kp.refl _ _).drewN _;have J:=F.move I (λ_ _ x=>x) (F.bO.drewN O);have B2:=B1.trans (I.below F.bK (λk x=>F.low (Or.inl x)));generalize wr.drewN O=w2 at I J B2⊢;clear I F B1
   go_wp2_with fail
   have E:=g7 B b t k (ih k (by omega)) w2 G D ⟨_,_,_,_,_,_,J⟩ X U (by omega) ht;rw[Z]at E;refine bu E ?_;rintro x w3 ⟨rfl,R3,Y⟩;have B4:=B2.trans Y;clear E J B2 Y;go_wp2
   go_roundg k
   case measure=>omega
   case rel=>exact⟨_,HF,hs.1,by omega,R3,B4⟩
  |false=>?_
  cases Gx:ag t G.pos==60 with
  |true=>
   have U:=dy (c:=60) (by decide) Gx;have hs:=jl (λa c s hc hs=>jZ k a c s hc hs) D U X
   cases Z:(bL t (aP t k) D G).1 with
   |false=>
    have HF:=af (HE.out.trans (show aP t (k+1) D cl G=(false,(bL t (aP t k) D G).2)by simp[aP,dz,sn,vU,Gx,Z]))
    go_wp2_with fail
    refine(bC b t G.pos _ F.bO.text F.bO.pos).mono ?_;rintro x w1 ⟨rfl,O,rfl⟩;have I:Kp (λk=>k=b) wr (wr.drewN O):=(Kp.refl _ _).drewN _;have J:=F.move I (λ_ _ x=>x) (F.bO.drewN O);have B2:=B1.trans (I.below F.bK (λk x=>F.low (Or.inl x)));generalize wr.drewN O=w2 at I J B2⊢;clear I F B1
    go_wp2_with fail
    have E:=g7 B b t k (ih k (by omega)) w2 G D ⟨_,_,_,_,_,_,J⟩ X U (by omega) ht;rw[Z]at E;refine bu E ?_;rintro x w3 ⟨rfl,R3,Y⟩;have B4:=B2.trans Y;clear E J B2 Y;go_wp2;go_ret;rw[HF.out];exact⟨rfl,R3,B4⟩
   |true=>?_
   have HF:=af (HE.out.trans (show aP t (k+1) D cl G=aP t k D cl (bL t (aP t k) D G).2 by simp[aP,dz,sn,vU,Gx,Z]))
   go_wp2_with fail
   refine(bC b t G.pos _ F.bO.text F.bO.pos).mono ?_;rintro x w1 ⟨rfl,O,rfl⟩;have I:Kp (λk=>k=b) wr (wr.drewN O):=(Kp.refl _ _).drewN _;have J:=F.move I (λ_ _ x=>x) (F.bO.drewN O);have B2:=B1.trans (I.below F.bK (λk x=>F.low (Or.inl x)));generalize wr.drewN O=w2 at I J B2⊢;clear I F B1
   go_wp2_with fail
   have E:=g7 B b t k (ih k (by omega)) w2 G D ⟨_,_,_,_,_,_,J⟩ X U (by omega) ht;rw[Z]at E;refine bu E ?_;rintro x w3 ⟨rfl,R3,Y⟩;have B4:=B2.trans Y;clear E J B2 Y;go_wp2
   go_roundg k
   case measure=>omega
   case rel=>exact⟨_,HF,hs.1,by omega,R3,B4⟩
  |false=>?_
  cases Qv:ag t G.pos==42 with
  |true=>
   have U:=dy (c:=42) (by decide) Qv;have hs:=jl (λa c s hc hs=>jZ k a c s hc hs) D U X
   cases Z:(bL t (aP t k) D G).1 with
   |false=>
    have HF:=af (HE.out.trans (show aP t (k+1) D cl G=(false,(bL t (aP t k) D G).2)by simp[aP,dz,sn,vU,Gx,Qv,Z]))
    go_wp2_with fail
    refine(bC b t G.pos _ F.bO.text F.bO.pos).mono ?_;rintro x w1 ⟨rfl,O,rfl⟩;have I:Kp (λk=>k=b) wr (wr.drewN O):=(Kp.refl _ _).drewN _;have J:=F.move I (λ_ _ x=>x) (F.bO.drewN O);have B2:=B1.trans (I.below F.bK (λk x=>F.low (Or.inl x)));generalize wr.drewN O=w2 at I J B2⊢;clear I F B1
    go_wp2_with fail
    have E:=g7 B b t k (ih k (by omega)) w2 G D ⟨_,_,_,_,_,_,J⟩ X U (by omega) ht;rw[Z]at E;refine bu E ?_;rintro x w3 ⟨rfl,R3,Y⟩;have B4:=B2.trans Y;clear E J B2 Y;go_wp2;go_ret;rw[HF.out];exact⟨rfl,R3,B4⟩
   |true=>?_
   have HF:=af (HE.out.trans (show aP t (k+1) D cl G=aP t k D cl (bL t (aP t k) D G).2 by simp[aP,dz,sn,vU,Gx,Qv,Z]))
   go_wp2_with fail
   refine(bC b t G.pos _ F.bO.text F.bO.pos).mono ?_;rintro x w1 ⟨rfl,O,rfl⟩;have I:Kp (λk=>k=b) wr (wr.drewN O):=(Kp.refl _ _).drewN _;have J:=F.move I (λ_ _ x=>x) (F.bO.drewN O);have B2:=B1.trans (I.below F.bK (λk x=>F.low (Or.inl x)));generalize wr.drewN O=w2 at I J B2⊢;clear I F B1
   go_wp2_with fail
   have E:=g7 B b t k (ih k (by omega)) w2 G D ⟨_,_,_,_,_,_,J⟩ X U (by omega) ht;rw[Z]at E;refine bu E ?_;rintro x w3 ⟨rfl,R3,Y⟩;have B4:=B2.trans Y;clear E J B2 Y;go_wp2
   go_roundg k
   case measure=>omega
   case rel=>exact⟨_,HF,hs.1,by omega,R3,B4⟩
  |false=>?_
  cases Nk:ag t G.pos==58 with
  |true=>
   have U:=dy (c:=58) (by decide) Nk;have hs:=jk D U X
   cases Z:(transition t D G).1 with
   |false=>
    have HF:=af (HE.out.trans (show aP t (k+1) D cl G=(false,(transition t D G).2)by simp[aP,dz,sn,vU,Gx,Qv,Nk,Z]))
    go_wp2_with fail
    refine(bC b t G.pos _ F.bO.text F.bO.pos).mono ?_;rintro x w1 ⟨rfl,O,rfl⟩;have I:Kp (λk=>k=b) wr (wr.drewN O):=(Kp.refl _ _).drewN _;have J:=F.move I (λ_ _ x=>x) (F.bO.drewN O);have B2:=B1.trans (I.below F.bK (λk x=>F.low (Or.inl x)));generalize wr.drewN O=w2 at I J B2⊢;clear I F B1
    go_wp2_with fail
    have E:=sk B b t w2 D G ⟨_,_,_,_,_,_,J⟩ X.1 U ht;rw[Z]at E;refine bu E ?_;rintro x w3 ⟨rfl,R3,Y⟩;have B4:=B2.trans Y;clear E J B2 Y;go_wp2;go_ret;rw[HF.out];exact⟨rfl,R3,B4⟩
   |true=>?_
   have HF:=af (HE.out.trans (show aP t (k+1) D cl G=aP t k D cl (transition t D G).2 by simp[aP,dz,sn,vU,Gx,Qv,Nk,Z]))
   go_wp2_with fail
   refine(bC b t G.pos _ F.bO.text F.bO.pos).mono ?_;rintro x w1 ⟨rfl,O,rfl⟩;have I:Kp (λk=>k=b) wr (wr.drewN O):=(Kp.refl _ _).drewN _;have J:=F.move I (λ_ _ x=>x) (F.bO.drewN O);have B2:=B1.trans (I.below F.bK (λk x=>F.low (Or.inl x)));generalize wr.drewN O=w2 at I J B2⊢;clear I F B1
   go_wp2_with fail
   have E:=sk B b t w2 D G ⟨_,_,_,_,_,_,J⟩ X.1 U ht;rw[Z]at E;refine bu E ?_;rintro x w3 ⟨rfl,R3,Y⟩;have B4:=B2.trans Y;clear E J B2 Y;go_wp2
   go_roundg k
   case measure=>omega
   case rel=>exact⟨_,HF,hs.1,by omega,R3,B4⟩
  |false=>?_
  cases Wc:ag t G.pos==94 with
  |true=>
   have U:=dy (c:=94) (by decide) Wc;have hs:=p_ D U X
   cases Z:(Ch.block t D G).1 with
   |false=>
    have HF:=af (HE.out.trans (show aP t (k+1) D cl G=(false,(Ch.block t D G).2)by simp[aP,dz,sn,vU,Gx,Qv,Nk,Wc,Z]))
    go_wp2_with fail
    refine(bC b t G.pos _ F.bO.text F.bO.pos).mono ?_;rintro x w1 ⟨rfl,O,rfl⟩;have I:Kp (λk=>k=b) wr (wr.drewN O):=(Kp.refl _ _).drewN _;have J:=F.move I (λ_ _ x=>x) (F.bO.drewN O);have B2:=B1.trans (I.below F.bK (λk x=>F.low (Or.inl x)));generalize wr.drewN O=w2 at I J B2⊢;clear I F B1
    go_wp2_with fail
    have E:=tA B b t w2 D G ⟨_,_,_,_,_,_,J⟩ X.1 U ht;rw[Z]at E;refine bu E ?_;rintro x w3 ⟨rfl,R3,Y⟩;have B4:=B2.trans Y;clear E J B2 Y;go_wp2;go_ret;rw[HF.out];exact⟨rfl,R3,B4⟩
   |true=>?_
   have HF:=af (HE.out.trans (show aP t (k+1) D cl G=aP t k D cl (Ch.block t D G).2 by simp[aP,dz,sn,vU,Gx,Qv,Nk,Wc,Z]))
   go_wp2_with fail
   refine(bC b t G.pos _ F.bO.text F.bO.pos).mono ?_;rintro x w1 ⟨rfl,O,rfl⟩;have I:Kp (λk=>k=b) wr (wr.drewN O):=(Kp.refl _ _).drewN _;have J:=F.move I (λ_ _ x=>x) (F.bO.drewN O);have B2:=B1.trans (I.below F.bK (λk x=>F.low (Or.inl x)));generalize wr.drewN O=w2 at I J B2⊢;clear I F B1
   go_wp2_with fail
   have E:=tA B b t w2 D G ⟨_,_,_,_,_,_,J⟩ X.1 U ht;rw[Z]at E;refine bu E ?_;rintro x w3 ⟨rfl,R3,Y⟩;have B4:=B2.trans Y;clear E J B2 Y;go_wp2
   go_roundg k
   case measure=>omega
   case rel=>exact⟨_,HF,hs.1,by omega,R3,B4⟩
  |false=>?_
  cases YY:ag t G.pos==36 with
  |true=>
   have U:=dy (c:=36) (by decide) YY;have hs:=p_ D U X
   cases Z:(Ch.block t D G).1 with
   |false=>
    have HF:=af (HE.out.trans (show aP t (k+1) D cl G=(false,(Ch.block t D G).2)by simp[aP,dz,sn,vU,Gx,Qv,Nk,Wc,YY,Z]))
    go_wp2_with fail
    refine(bC b t G.pos _ F.bO.text F.bO.pos).mono ?_;rintro x w1 ⟨rfl,O,rfl⟩;have I:Kp (λk=>k=b) wr (wr.drewN O):=(Kp.refl _ _).drewN _;have J:=F.move I (λ_ _ x=>x) (F.bO.drewN O);have B2:=B1.trans (I.below F.bK (λk x=>F.low (Or.inl x)));generalize wr.drewN O=w2 at I J B2⊢;clear I F B1
    go_wp2_with fail
    have E:=tA B b t w2 D G ⟨_,_,_,_,_,_,J⟩ X.1 U ht;rw[Z]at E;refine bu E ?_;rintro x w3 ⟨rfl,R3,Y⟩;have B4:=B2.trans Y;clear E J B2 Y;go_wp2;go_ret;rw[HF.out];exact⟨rfl,R3,B4⟩
   |true=>?_
   have HF:=af (HE.out.trans (show aP t (k+1) D cl G=aP t k D cl (Ch.block t D G).2 by simp[aP,dz,sn,vU,Gx,Qv,Nk,Wc,YY,Z]))
   go_wp2_with fail
   refine(bC b t G.pos _ F.bO.text F.bO.pos).mono ?_;rintro x w1 ⟨rfl,O,rfl⟩;have I:Kp (λk=>k=b) wr (wr.drewN O):=(Kp.refl _ _).drewN _;have J:=F.move I (λ_ _ x=>x) (F.bO.drewN O);have B2:=B1.trans (I.below F.bK (λk x=>F.low (Or.inl x)));generalize wr.drewN O=w2 at I J B2⊢;clear I F B1
   go_wp2_with fail
   have E:=tA B b t w2 D G ⟨_,_,_,_,_,_,J⟩ X.1 U ht;rw[Z]at E;refine bu E ?_;rintro x w3 ⟨rfl,R3,Y⟩;have B4:=B2.trans Y;clear E J B2 Y;go_wp2
   go_roundg k
   case measure=>omega
   case rel=>exact⟨_,HF,hs.1,by omega,R3,B4⟩
  |false=>?_
  have HF:=af (HE.out.trans (show aP t (k+1) D cl G=(ag t G.pos==cl,{G with pos:=cL (ag t G.pos==cl) G.pos})by simp[aP,dz,sn,vU,Gx,Qv,Nk,Wc,YY]))
  go_wp2_with fail
  refine(bC b t G.pos _ F.bO.text F.bO.pos).mono ?_;rintro x w1 ⟨rfl,O,rfl⟩;have I:Kp (λk=>k=b) wr (wr.drewN O):=(Kp.refl _ _).drewN _;have J:=F.move I (λ_ _ x=>x) (F.bO.drewN O);have B2:=B1.trans (I.below F.bK (λk x=>F.low (Or.inl x)));generalize wr.drewN O=w2 at I J B2⊢;clear I F B1
  go_wp2_with fail
  refine(pZ b t G.pos (.int .i64 0) (.int .i64 0) sv tv bv uv w2 cl J.bO (by have:=X.2;omega)).mono ?_;rintro x w5 ⟨rfl,R5,K5⟩;have F5:=J.move K5 (λ_ _ x=>x) R5;have B5:=B2.trans (K5.below J.bK (λk x=>J.low (Or.inl x)));clear J B2 R5 K5;go_wp2;go_ret;rw[HF.out];exact⟨rfl,⟨_,_,_,_,_,_,F5⟩,B5⟩
namespace Ch
def rQ(ss:List St)(i:Int):Option St:=match i with| .ofNat k=>ss[k]? | .negSucc _=>none
theorem gR(ss:List St)(k:Nat):rQ ss (k:Int)=ss[k]?:=rfl
theorem j1{ss:List St}{i:Int}{s:St}(h:rQ ss i=some s):∃k:Nat,i=k/\ss[k]? =some s/\k<ss.length:=by
 cases i with
 |ofNat k=>exact⟨k,rfl,h,by have:=(aJ.1 (show ss[k]? =some s from h)).1;exact this⟩
 |negSucc k=>grind[rQ]
theorem v7{ss:List St}{i:Int}(h:rQ ss i=none):i<0\/(0<=i/\(ss.length:Int)<=i):=by
 cases i with
 |ofNat k=>right;have:ss[k]? =_:=h;simp_all
 |negSucc k=>omega
def a_(ss:List St)(i:Int):Int:=match rQ ss i with|some s=>s.kind|none=>2
def aN(ss:List St)(i:Int):Int:=match rQ ss i with|some s=>s.parent|none=>-1
def aW(ss:List St)(i parent:Int):Bool:=match rQ ss i with|some s=>s.parent==parent&&s.kind !=5|none=>false
def py(c:Int):List St->Nat->Int
 | [],_=>-2
 |s::l,k=>if s.name==c then k else py c l (k+1)
def place(ss:List St)(c:Int):Int:=py c ss 0
def eS(ss:List St)(parent:Int):Nat->Nat->Int
 |0,_=>-2
 |f+1,k=>if aW ss k parent then k else eS ss parent f (k+1)
def dZ(ss:List St)(parent:Int):Int:=eS ss parent ss.length 0
def mg(ss:List St)(i:Int):Bool:=match rQ ss i with
 |some s=>if s.kind==5||s.kind==4 then a_ ss s.parent==3 else if s.kind==3||s.kind==2 then dZ ss i== -2 else false
 |none=>false
def gB(p:Nat->St->Bool):List St->Nat->Int
 | [],_=>-2
 |s::l,k=>if p k s then s.pos else gB p l (k+1)
def iQ(ss:List St):Int:=gB (λk s=>decide (place ss s.name<(k:Int))) ss 0
def lq(ss:List St):Int:=gB (λk _=>mg ss k) ss 0
def ei(ss:List St):List Us->Int
 | []=>-2
 |u::l=>if place ss u.name== -2 then u.pos else ei ss l
end Ch
def tV(w:World)(ob oo:Nat)(ss:List St):Prop:=∃sv base,w.cell? ⟨ob,oo+2,none⟩=some sv/\w.ownsRow base 155 4 sv ss.length (fB ss)
theorem tV.at_{w:World}{ob oo:Nat}{ss:List St}(h:tV w ob oo ss){k:Nat}{s:St}(hs:ss[k]? =some s):
 ∃g cap,w.cell? ⟨ob,oo+2,none⟩=some (.slice (some ⟨g,0,none⟩) ss.length cap)/\w.cell? ⟨g,k*4,none⟩=some (.int .u8 s.name)/\w.cell? ⟨g,k*4+1,none⟩=some (.int .i64 s.pos)/\
  w.cell? ⟨g,k*4+2,none⟩=some (.int .i64 s.kind)/\w.cell? ⟨g,k*4+3,none⟩=some (.int .i64 s.parent):=by
 obtain⟨sv,base,J,D⟩:=h;have hk:=(aJ.1 hs).1;obtain⟨g,cap,rfl⟩:=ij D (by omega);obtain⟨E,F,G,I⟩:=yd ss k s hs;exact⟨g,cap,J,(D.cellAt (k*4) (by omega)).trans E,(D.cellAt (k*4+1) (by omega)).trans F,(D.cellAt (k*4+2) (by omega)).trans G,(D.cellAt (k*4+3) (by omega)).trans I⟩
theorem tV.len{w:World}{ob oo:Nat}{ss:List St}(h:tV w ob oo ss):∃D cap,w.cell? ⟨ob,oo+2,none⟩=some (.slice D ss.length cap):=by
 obtain⟨sv,base,G,E⟩:=h
 rcases E.2 with⟨F,I⟩|⟨g,cap,_,F,_⟩
 ·simp_all
 simp_all
section
variable (ob oo:Nat) (w:World) (ss:List St)
theorem mh(i:Int)(h:tV w ob oo ss)(_hl:ss.length<=1000):
 Calls prog 163 #[.pointer (some ⟨ob,oo,none⟩),.int .i64 i] w λx w'=>x= .returned (.int .i64 (a_ ss i))/\w'=w:=by
 unfold a_
 cases hs:rQ ss i with
 |none=>
  obtain⟨X,cap,c2⟩:=h.len
  rcases v7 hs with E|⟨Y,E⟩
  ·clear hs h
   go_enter func163,ntmps163
   go_wp2;go_ret;exact⟨rfl,rfl⟩
  have F:decide (i<0)=false:=by simp;omega
  clear hs h
  go_enter func163,ntmps163
  go_wp2;go_ret;exact⟨rfl,rfl⟩
 |some s=>?_
 obtain⟨k,rfl,hk,G⟩:=j1 hs;obtain⟨g,cap,c2,I,J,O,U⟩:=h.at_ hk
 have F:decide ((k:Int)<0)=false:=by simp
 have D:(k:Int)<(ss.length:Int):=by omega
 clear hs hk h
 go_enter func163,ntmps163
 go_wp2;go_ret;exact⟨rfl,rfl⟩
theorem mi(i parent:Int)(h:tV w ob oo ss)(_hl:ss.length<=1000):
 Calls prog 162 #[.pointer (some ⟨ob,oo,none⟩),.int .i64 i,.int .i64 parent] w λx w'=>x= .returned (.bool (aW ss i parent))/\w'=w:=by
 unfold aW
 cases hs:rQ ss i with
 |none=>
  obtain⟨Z,cap,c2⟩:=h.len
  rcases v7 hs with G|⟨h0,G⟩
  ·clear hs h
   go_enter func162,ntmps162
   go_wp2;go_ret;exact⟨rfl,rfl⟩
  have I:decide (i<0)=false:=by simp;omega
  clear hs h
  go_enter func162,ntmps162
  go_wp2;go_ret;exact⟨rfl,rfl⟩
 |some s=>?_
 obtain⟨k,rfl,hk,J⟩:=j1 hs;obtain⟨g,cap,c2,O,U,X,Y⟩:=h.at_ hk
 have I:decide ((k:Int)<0)=false:=by simp
 have E:(k:Int)<(ss.length:Int):=by omega
 clear hs hk h
 cases D:s.parent==parent with
 |false=>
  go_enter func162,ntmps162
  go_wp2;go_ret;exact⟨by simp[D],rfl⟩
 |true=>?_
 cases F:s.kind !=5 with
 |false=>
  go_enter func162,ntmps162
  go_wp2;go_ret;exact⟨by simp[D,F],rfl⟩
 |true=>?_
 go_enter func162,ntmps162
 go_wp2;go_ret;exact⟨by simp[D,F],rfl⟩
theorem qf(c:Int)(h:tV w ob oo ss)(hl:ss.length<=1000):
 Calls prog 158 #[.pointer (some ⟨ob,oo,none⟩),.int .u8 c] w λx w'=>x= .returned (.int .i64 (Ch.place ss c))/\w'=w:=by
 go_enter func158,ntmps158
 go_wp2_with fail
 go_loop [5] (λi=>∃k:Nat,i= .int .i64 k/\k<=ss.length/\Hid (Ch.place ss c=py c (ss.drop k) k)) (λi=>ss.length-(intOf i).toNat)
 case atStart=>exact⟨0,rfl,aG _,af rfl⟩
 case round=>
  obtain⟨k,rfl,hk,D⟩:=hrel
  by_cases F:k<ss.length
  ·obtain⟨s,hs⟩:∃s,ss[k]? =some s:=⟨_,ar F⟩
   obtain⟨g,cap,c2,O,U,X,Y⟩:=h.at_ hs
   have I:(k:Int)<(ss.length:Int):=by omega
   have G:ss.drop k=s::ss.drop (k+1):=by
    rw[eZ F];congr 1;exact(aJ.1 hs).2
   cases q:s.name==c with
   |true=>
    have E:=af (D.out.trans (show _=((k:Nat):Int)by rw[G];simp[py,q]));clear G hs D;go_wp2;go_ret;exact⟨by rw[E.out];rfl,rfl⟩
   |false=>?_
   have E:=af (D.out.trans (show _=py c (ss.drop (k+1)) (k+1)by rw[G];simp[py,q]));clear G hs D;go_wp2
   go_round
   case rel=>exact⟨k+1,by go_num,by omega,E⟩
   case measure=>simp[intOf];omega
  obtain⟨Z,cap,c2⟩:=h.len;have E:=af (D.out.trans (show _=(-2:Int)by rw[c_ (by omega)];rfl))
  have J:¬(k:Int)<(ss.length:Int):=by omega
  clear D;go_wp2;go_ret;exact⟨by rw[E.out];rfl,rfl⟩
theorem n_(parent:Int)(h:tV w ob oo ss)(O:ss.length<=1000):
 Calls prog 217 #[.pointer (some ⟨ob,oo,none⟩),.int .i64 parent] w λx w'=>x= .returned (.int .i64 (dZ ss parent))/\w'=w:=by
 obtain⟨Y,cap,c2⟩:=h.len
 go_enter func217,ntmps217
 go_wp2_with fail
 go_loop [5] (λi=>∃k:Nat,i= .int .i64 k/\k<=ss.length/\Hid (dZ ss parent=eS ss parent (ss.length-k) k)) (λi=>ss.length-(intOf i).toNat)
 case atStart=>exact⟨0,rfl,aG _,af rfl⟩
 case round=>
  obtain⟨k,rfl,hk,D⟩:=hrel;have E:=af (mi ob oo w ss k parent h O)
  by_cases U:k<ss.length
  ·have I:(k:Int)<(ss.length:Int):=by omega
   have G:ss.length-k=(ss.length-(k+1))+1:=by omega
   cases q:aW ss k parent with
   |true=>
    have F:=af (D.out.trans (show _=((k:Nat):Int)by rw[G];simp[eS,q]));rw[q]at E;clear G D
    go_wp2_with fail
    refine hm E ?_;rintro x X ⟨rfl,rfl⟩;go_wp2;go_ret;exact⟨by rw[F.out];rfl,rfl⟩
   |false=>?_
   have F:=af (D.out.trans (show _=eS ss parent (ss.length-(k+1)) (k+1)by rw[G];simp[eS,q]));rw[q]at E;clear G D
   go_wp2_with fail
   refine hm E ?_;rintro x X ⟨rfl,rfl⟩;go_wp2
   go_round
   case rel=>exact⟨k+1,by go_num,by omega,F⟩
   case measure=>simp[intOf];omega
  have F:=af (D.out.trans (show _=(-2:Int)by rw[show ss.length-k=0 by omega];rfl))
  have J:¬(k:Int)<(ss.length:Int):=by omega
  clear D E
  go_wp2_with fail
  go_ret;exact⟨by rw[F.out];rfl,rfl⟩
theorem Ke(k:Nat)(J:k<ss.length)(h:tV w ob oo ss)(X:ss.length<=1000):
 Calls prog 159 #[.pointer (some ⟨ob,oo,none⟩),.int .i64 k] w λx w'=>x= .returned (.bool (mg ss k))/\w'=w:=by
 obtain⟨s,hs⟩:∃s,ss[k]? =some s:=⟨_,ar J⟩
 obtain⟨g,cap,c2,a0,a1,a2,a3⟩:=h.at_ hs
 have Y:(k:Int)<(ss.length:Int):=by omega
 have D:rQ _ (k:Int)=_:=hs;have G:=af (mh ob oo w ss s.parent h X);have I:=af (n_ ob oo w ss (k:Int) h X)
 cases E:s.kind==5 with
 |true=>
  rw[show mg ss k=(a_ ss s.parent==3)by simp[mg,D,E]];clear hs D h
  go_enter func159,ntmps159
  go_wp2_with fail
  refine hm G ?_;rintro x U ⟨rfl,rfl⟩;go_wp2;go_ret;exact⟨rfl,rfl⟩
 |false=>?_
 cases F:s.kind==4 with
 |true=>
  rw[show mg ss k=(a_ ss s.parent==3)by simp[mg,D,E,F]];clear hs D h
  go_enter func159,ntmps159
  go_wp2_with fail
  refine hm G ?_;rintro x U ⟨rfl,rfl⟩;go_wp2;go_ret;exact⟨rfl,rfl⟩
 |false=>?_
 cases O:s.kind==3 with
 |true=>
  rw[show mg ss k=(dZ ss k== -2)by simp[mg,D,E,F,O]];clear hs D h
  go_enter func159,ntmps159
  go_wp2_with fail
  refine hm I ?_;rintro x U ⟨rfl,rfl⟩;go_wp2;go_ret;exact⟨rfl,rfl⟩
 |false=>?_
 cases Z:s.kind==2 with
 |true=>
  rw[show mg ss k=(dZ ss k== -2)by simp[mg,D,E,F,O,Z]];clear hs D h
  go_enter func159,ntmps159
  go_wp2_with fail
  refine hm I ?_;rintro x U ⟨rfl,rfl⟩;go_wp2;go_ret;exact⟨rfl,rfl⟩
 |false=>?_
 rw[show mg ss k=false by simp[mg,D,E,F,O,Z]];clear hs D h G I
 go_enter func159,ntmps159
 go_wp2;go_ret;exact⟨rfl,rfl⟩
theorem yg(h:tV w ob oo ss)(U:ss.length<=1000):
 Calls prog 112 #[.pointer (some ⟨ob,oo,none⟩)] w λx w'=>x= .returned (.int .i64 (iQ ss))/\w'=w:=by
 go_enter func112,ntmps112
 go_wp2_with fail
 go_loop [3] (λi=>∃k:Nat,i= .int .i64 k/\k<=ss.length/\Hid (iQ ss=gB (λk s=>decide (Ch.place ss s.name<(k:Int))) (ss.drop k) k)) (λi=>ss.length-(intOf i).toNat)
 case atStart=>exact⟨0,rfl,aG _,af rfl⟩
 case round=>
  obtain⟨k,rfl,hk,D⟩:=hrel
  by_cases G:k<ss.length
  ·obtain⟨s,hs⟩:∃s,ss[k]? =some s:=⟨_,ar G⟩
   obtain⟨g,cap,c2,Y,Z,a2,a3⟩:=h.at_ hs
   have J:(k:Int)<(ss.length:Int):=by omega
   have I:ss.drop k=s::ss.drop (k+1):=by
    rw[eZ G];congr 1;exact(aJ.1 hs).2
   have E:=af (qf ob oo w ss s.name h U)
   cases q:decide (Ch.place ss s.name<(k:Int))with
   |true=>
    have F:=af (D.out.trans (show _=s.pos by rw[I];simp[gB];intro x;simp at q;omega));clear I hs D
    go_wp2_with fail
    refine hm E ?_;rintro x X ⟨rfl,rfl⟩;go_wp2;go_ret;exact⟨by rw[F.out];rfl,rfl⟩
   |false=>?_
   have F:=af (D.out.trans (show _=gB (λk s=>decide (Ch.place ss s.name<(k:Int))) (ss.drop (k+1)) (k+1)by rw[I];simp[gB];intro x;simp at q;omega));clear I hs D
   go_wp2_with fail
   refine hm E ?_;rintro x X ⟨rfl,rfl⟩;go_wp2
   go_round
   case rel=>exact⟨k+1,by go_num,by omega,F⟩
   case measure=>simp[intOf];omega
  obtain⟨ao,cap,c2⟩:=h.len;have F:=af (D.out.trans (show _=(-2:Int)by rw[c_ (by omega)];rfl))
  have O:¬(k:Int)<(ss.length:Int):=by omega
  clear D
  go_wp2_with fail
  go_ret;exact⟨by rw[F.out];rfl,rfl⟩
theorem B9(h:tV w ob oo ss)(U:ss.length<=1000):
 Calls prog 113 #[.pointer (some ⟨ob,oo,none⟩)] w λx w'=>x= .returned (.int .i64 (lq ss))/\w'=w:=by
 go_enter func113,ntmps113
 go_wp2_with fail
 go_loop [3] (λi=>∃k:Nat,i= .int .i64 k/\k<=ss.length/\Hid (lq ss=gB (λk _=>mg ss k) (ss.drop k) k)) (λi=>ss.length-(intOf i).toNat)
 case atStart=>exact⟨0,rfl,aG _,af rfl⟩
 case round=>
  obtain⟨k,rfl,hk,F⟩:=hrel
  by_cases D:k<ss.length
  ·obtain⟨s,hs⟩:∃s,ss[k]? =some s:=⟨_,ar D⟩
   obtain⟨g,cap,c2,Y,Z,a2,a3⟩:=h.at_ hs
   have J:(k:Int)<(ss.length:Int):=by omega
   have I:ss.drop k=s::ss.drop (k+1):=by
    rw[eZ D];congr 1;exact(aJ.1 hs).2
   have E:=af (Ke ob oo w ss k D h U)
   cases q:mg ss k with
   |true=>
    have G:=af (F.out.trans (show _=s.pos by rw[I];simp[gB,q]));rw[q]at E;clear I hs F
    go_wp2_with fail
    refine hm E ?_;rintro x X ⟨rfl,rfl⟩;go_wp2;go_ret;exact⟨by rw[G.out];rfl,rfl⟩
   |false=>?_
   have G:=af (F.out.trans (show _=gB (λk _=>mg ss k) (ss.drop (k+1)) (k+1)by rw[I];simp[gB,q]));rw[q]at E;clear I hs F
   go_wp2_with fail
   refine hm E ?_;rintro x X ⟨rfl,rfl⟩;go_wp2
   go_round
   case rel=>exact⟨k+1,by go_num,by omega,G⟩
   case measure=>simp[intOf];omega
  obtain⟨ao,cap,c2⟩:=h.len;have G:=af (F.out.trans (show _=(-2:Int)by rw[c_ (by omega)];rfl))
  have O:¬(k:Int)<(ss.length:Int):=by omega
  clear F
  go_wp2_with fail
  go_ret;exact⟨by rw[G.out];rfl,rfl⟩
end
theorem Gy(us:List Us)(k:Nat)(u:Us)(h:us[k]? =some u):
 (ik us)[k*2]? =some (.int .u8 u.name)/\(ik us)[k*2+1]? =some (.int .i64 u.pos):=by
 induction us generalizing k with
 |nil=>simp_all
 |cons a l D=>?_
 grind[ik]
namespace Ch
def fa(ss:List St)(us:List Us):Int×Int:=
 if 16<ss.length then(3,match ss[16]? with|some s=>s.pos|none=>0)
 else if iQ ss != -2 then(4,iQ ss)
 else if lq ss != -2 then(5,lq ss)
 else if ei ss us != -2 then(6,ei ss us)
 else(0,0)
end Ch
section
variable (ob oo:Nat) (w:World) (ss:List St)
theorem B_(uv:Value)(us:List Us)(base:Nat)(F:w.ownsRow base 242 2 uv us.length (ik us))(hu:us.length<=1000)(h:tV w ob oo ss)(hl:ss.length<=1000):
 Calls prog 114 #[.pointer (some ⟨ob,oo,none⟩),uv] w λx w'=>x= .returned (.int .i64 (ei ss us))/\w'=w:=by
 obtain⟨ao,cap,rfl⟩:=bn F
 go_enter func114,ntmps114
 go_wp2_with fail
 go_loop [5] (λi=>∃k:Nat,i= .int .i64 k/\k<=us.length/\Hid (ei ss us=ei ss (us.drop k))) (λi=>us.length-(intOf i).toNat)
 case atStart=>exact⟨0,rfl,aG _,af rfl⟩
 case round=>
  obtain⟨k,rfl,hk,D⟩:=hrel
  by_cases I:k<us.length
  ·obtain⟨u,hs⟩:∃s,us[k]? =some s:=⟨_,ar I⟩
   obtain⟨g,X,Y⟩:=ij F (by omega);simp only[aK,bS]at Y;obtain⟨rfl,rfl⟩:=Y;obtain⟨O,U⟩:=Gy us k u hs;have a0:=(F.cellAt (k*2) (by omega)).trans O;have a1:=(F.cellAt (k*2+1) (by omega)).trans U
   have Z:(k:Int)<(us.length:Int):=by omega
   have J:us.drop k=u::us.drop (k+1):=by
    rw[eZ I];congr 1;exact(aJ.1 hs).2
   have E:=af (qf ob oo w ss u.name h hl)
   cases q:Ch.place ss u.name== -2 with
   |true=>
    have G:=af (D.out.trans (show _=u.pos by rw[J];simp[ei,q]));clear J hs D F O U
    go_wp2_with fail
    refine hm E ?_;rintro x w1 ⟨rfl,rfl⟩;go_wp2;go_ret;exact⟨by rw[G.out];rfl,rfl⟩
   |false=>?_
   have G:=af (D.out.trans (show _=ei ss (us.drop (k+1))by rw[J];simp[ei,q]));clear J hs D F O U
   go_wp2_with fail
   refine hm E ?_;rintro x w1 ⟨rfl,rfl⟩;go_wp2
   go_round
   case rel=>exact⟨k+1,by go_num,by omega,G⟩
   case measure=>simp[intOf];omega
  have G:=af (D.out.trans (show _=(-2:Int)by rw[c_ (by omega)];rfl))
  have aa:¬(k:Int)<(us.length:Int):=by omega
  clear D
  go_wp2_with fail
  go_ret;exact⟨by rw[G.out];rfl,rfl⟩
theorem tV.az{ob oo:Nat}{w w':World}{ss:List St}{S:Nat->Prop}(h:tV w ob oo ss)(k:Kp S w w')(F:¬S ob)(G:∀i D,w.heap[i]? =some (.cells D 155 (0,0))->¬S i):tV w' ob oo ss:=by
 obtain⟨sv,base,I,E⟩:=h;refine⟨sv,base,?_,k.owns E (λi hi=>by obtain⟨D,J⟩:=bz E hi;exact G i D J)⟩;rw[jC (k.block ob (nE w _ I) F)];omega
theorem tV.alloc{ob oo:Nat}{w:World}{ss:List St}(h:tV w ob oo ss)(o:Obj):tV (w.alloc o) ob oo ss:=
 h.az (S:=λ_=>False) ((Kp.refl _ _).alloc _) (λx=>x) (λ_ _ _ x=>x)
theorem AX(uv:Value)(us:List Us)(base:Nat)(ho:w.ownsRow base 242 2 uv us.length (ik us))(hu:us.length<=1000)(h:tV w ob oo ss)(Y:ss.length<=1000):
 Calls prog 69 #[.pointer (some ⟨ob,oo,none⟩),uv] w λx w'=>x= .returned (.agg #[.int .i64 (fa ss us).1,.int .i64 (fa ss us).2])/\Kp (λ_=>False) w w':=by
 have I:=h.alloc (.cells #[.int .i64 0,.int .i64 0] 145);have J:=ho.alloc (.cells #[.int .i64 0,.int .i64 0] 145);clear h ho
 by_cases D:16<ss.length
 ·obtain⟨s,hs⟩:∃s,ss[16]? =some s:=⟨_,ar D⟩
  obtain⟨g,cap,c2,a0,a1,a2,a3⟩:=I.at_ hs;simp only[Nat.reduceMul,Nat.reduceAdd]at a0 a1 a2 a3
  have Ag:(16:Int)<(ss.length:Int):=by omega
  rw[show fa ss us=(3,s.pos)by unfold fa;rw[aq D,hs]];clear hs I J
  go_enter func69,ntmps69
  go_wp2_with fail
  exact bg (v:=.agg #[.int .i64 3,.int .i64 s.pos]) (by simp[results,Tryz.results69,go_sem]) rfl ⟨rfl,(Kp.refl _ _).alloc _⟩
 have Ag:¬(16:Int)<(ss.length:Int):=by omega
 obtain⟨ao,cap,c2⟩:=I.len;have U:=af (yg ob oo _ ss I Y);have X:=af (B9 ob oo _ ss I Y);have Z:=af (B_ ob oo _ ss uv us base J hu I Y);clear I J
 cases q1:iQ ss != -2 with
 |true=>
  rw[show fa ss us=(4,iQ ss)by unfold fa;rw[ay D,aq q1]]
  go_enter func69,ntmps69
  go_wp2_with fail
  refine hm U ?_;rintro x G ⟨rfl,rfl⟩
  go_wp2_with fail
  exact bg (v:=.agg #[.int .i64 4,.int .i64 (iQ ss)]) (by simp[results,Tryz.results69,go_sem]) rfl ⟨rfl,(Kp.refl _ _).alloc _⟩
 |false=>?_
 have E:¬(iQ ss != -2)=true:=by simp[q1]
 cases q2:lq ss != -2 with
 |true=>
  rw[show fa ss us=(5,lq ss)by unfold fa;rw[ay D,ay E,aq q2]];clear E
  go_enter func69,ntmps69
  go_wp2_with fail
  refine hm U ?_;rintro x G ⟨rfl,rfl⟩
  go_wp2_with fail
  refine hm X ?_;rintro x G ⟨rfl,rfl⟩
  go_wp2_with fail
  exact bg (v:=.agg #[.int .i64 5,.int .i64 (lq ss)]) (by simp[results,Tryz.results69,go_sem]) rfl ⟨rfl,(Kp.refl _ _).alloc _⟩
 |false=>?_
 have F:¬(lq ss != -2)=true:=by simp[q2]
 cases q3:ei ss us != -2 with
 |true=>
  rw[show fa ss us=(6,ei ss us)by unfold fa;rw[ay D,ay E,ay F,aq q3]];clear E F
  go_enter func69,ntmps69
  go_wp2_with fail
  refine hm U ?_;rintro x G ⟨rfl,rfl⟩
  go_wp2_with fail
  refine hm X ?_;rintro x G ⟨rfl,rfl⟩
  go_wp2_with fail
  refine hm Z ?_;rintro x G ⟨rfl,rfl⟩
  go_wp2_with fail
  exact bg (v:=.agg #[.int .i64 6,.int .i64 (ei ss us)]) (by simp[results,Tryz.results69,go_sem]) rfl ⟨rfl,(Kp.refl _ _).alloc _⟩
 |false=>?_
 have O:¬(ei ss us != -2)=true:=by simp[q3]
 rw[show fa ss us=(0,0)by unfold fa;rw[ay D,ay E,ay F,ay O]];clear E F O
 go_enter func69,ntmps69
 go_wp2_with fail
 refine hm U ?_;rintro x G ⟨rfl,rfl⟩
 go_wp2_with fail
 refine hm X ?_;rintro x G ⟨rfl,rfl⟩
 go_wp2_with fail
 refine hm Z ?_;rintro x G ⟨rfl,rfl⟩
 go_wp2_with fail
 exact bg (v:=.agg #[.int .i64 0,.int .i64 0]) (by simp[results,Tryz.results69,go_sem]) rfl ⟨rfl,(Kp.refl _ _).alloc _⟩
