import Derived.Test.YtnlbchmfcebeeaaGreatTA2
import Derived.Deep.Cut
set_option maxHeartbeats 12800000
set_option maxRecDepth 100000
namespace Go.Proofs.YtnlbchmfcebeeaaGreat
open Go.Proofs.Tryz Ch
open Go.RowKit
open Value(int slice bool pointer agg tuple)
open IntKind(i64)
open Obj(cells)
open Ending(returned)
open Operand(tmp)
theorem OJ:(prog.info? 209).map (λi=>(i.zero,i.size,i.bytes))=some (some (agg #[int i64 0,int .u8 0,int .u8 0,int .u8 0,int i64 0,slice none 0 0,int .u8 0]),7,64):=bZ
theorem gu{w:World}{base}{e}{size}{v}{n}{F}(h:w.ownsRow base e size v n F):∃E m D,v= slice E m D:=by
 rcases h.2 with⟨h,_⟩|⟨g,D,_,h,_⟩
 ·simp_all
 simp_all
theorem eZ(w:World)(D:List Value)T:∀j u,D[j]? =some u->(w.alloc (cells D.toArray T)).cell? ((⟨w.heap.size,0,none⟩:Addr).add j)=some u:=by
 intro j u F;by_cases E:j=0
 ·subst E;simp[Addr.add,F]
 simp[Addr.add,E,F]
def Ch.transition(t:ByteArray)(D:Int)(r:Rs):Bool×Rs:=
 if pw (af t (r.pos+1))then
  if(Ch.guard t (r.pos+1+1) ⟨0,0,0⟩).1 then
   if(bM t 62 (Ch.guard t (r.pos+1+1) ⟨0,0,0⟩).2.2).1 then
    (pX (af t (bM t 62 (Ch.guard t (r.pos+1+1) ⟨0,0,0⟩).2.2).2.2),
     {r with pos:=dI (pX (af t (bM t 62 (Ch.guard t (r.pos+1+1) ⟨0,0,0⟩).2.2).2.2)) (bM t 62 (Ch.guard t (r.pos+1+1) ⟨0,0,0⟩).2.2).2.2
             dF:=r.dF++[⟨D,af t (r.pos+1),(Ch.guard t (r.pos+1+1) ⟨0,0,0⟩).2.1,(bM t 62 (Ch.guard t (r.pos+1+1) ⟨0,0,0⟩).2.2).2.1,af t (bM t 62 (Ch.guard t (r.pos+1+1) ⟨0,0,0⟩).2.2).2.2⟩]
             dH:=eI (af t (bM t 62 (Ch.guard t (r.pos+1+1) ⟨0,0,0⟩).2.2).2.2) (bM t 62 (Ch.guard t (r.pos+1+1) ⟨0,0,0⟩).2.2).2.2 (eI (af t (r.pos+1)) (r.pos+1) r.dH)})
   else(false,{r with pos:=(bM t 62 (Ch.guard t (r.pos+1+1) ⟨0,0,0⟩).2.2).2.2,dH:=eI (af t (r.pos+1)) (r.pos+1) r.dH})
  else(false,{r with pos:=(Ch.guard t (r.pos+1+1) ⟨0,0,0⟩).2.2,dH:=eI (af t (r.pos+1)) (r.pos+1) r.dH})
 else(false,{r with pos:=r.pos+1,dH:=eI (af t (r.pos+1)) (r.pos+1) r.dH})
theorem Ch.vn c p us:(eI c p us).length<=us.length+1:=by unfold eI;split<;>simp
theorem vo B b t w D r(H:Rd w B b t r)(hd:Bd r)(hp:r.pos<t.size)(ht:t.size<=240):
 Calls prog 214 #[pointer (some ⟨b,0,none⟩),int i64 D] w λx w'=>x=returned (bool (transition t D r).1)/\Rd w' B b t (transition t D r).2/\Below B w w':=by
 have⟨sv,tv,bv,uv,lt,lb,h⟩:=H;have⟨d1,d2,d3,d4⟩:=hd;have hs:=h.cj.step;have c1:=h.cj.pos;have f1:=h.cj.free 1;have a5:=h.bV;cases Y:pw (af t (r.pos+1))with
 |false=>
  rw[show transition t D r=(false,{r with pos:=r.pos+1,dH:=eI (af t (r.pos+1)) (r.pos+1) r.dH})by simp[transition,Y]];have Y:=ag Y;go_in;go_wp2_with fail;refine(bL b t (r.pos+1) _ hs.text hs.pos).mono ?_;rintro x I ⟨rfl,X,rfl⟩;have R1:=hs.drewN X;have Q:Kp (λk=>k=b) w ((w.setCell ⟨b,1,none⟩ (int i64 ((r.pos:Int)+1))).drewN X):=((Kp.refl _ _).setCell jF _).drewN _;generalize (w.setCell ⟨b,1,none⟩ (int i64 ((r.pos:Int)+1))).drewN X=I at R1 Q⊢;go_wp2_with fail;have G:rT (I.alloc (cells #[int i64 D,int .u8 (af t (r.pos+1)),int .u8 0,int .u8 0,int i64 0,slice none 0 0,int .u8 0] 209)) _ _ _ ⟨0,0,0⟩ _ _:=ak I _;have R:=R1.alloc (cells #[int i64 D,int .u8 (af t (r.pos+1)),int .u8 0,int .u8 0,int i64 0,slice none 0 0,int .u8 0] 209);have J:=Q.alloc (cells #[int i64 D,int .u8 (af t (r.pos+1)),int .u8 0,int .u8 0,int i64 0,slice none 0 0,int .u8 0] 209);have iL:=Q.size;generalize I.alloc (cells #[int i64 D,int .u8 (af t (r.pos+1)),int .u8 0,int .u8 0,int i64 0,slice none 0 0,int .u8 0] 209)=w2 at G R J⊢;generalize I.heap.size=tb at G iL⊢;have O2:=J.owns h.dH (λk hk e=>by subst e;exact aZ h.dH h.cj aV hk);have E:=rS B b t (r.pos+1) (int i64 0) (int i64 0) sv tv bv uv w2 r.dH R O2 (by have:=J.size;omega) oQ oQ;rw[Y]at E;refine bI E ?_;rintro x w3 ⟨rfl,OK,O,Z,F⟩;have U:=G.ne R;have T3:=G.aB F (λx=>by rcases x with x|x;exact U x;exact aZ O2 G aV x);have K3:=(J.mono (λ_ _ x=>Or.inl x)).trans F;go_wp2;go_ret;exact⟨rfl,⟨_,_,_,_,_,_,h.Hk K3 (λ_ _ x=>x) O Z⟩,K3.below h.bV (λk x=>h.low (by rcases x with x|x;exact Or.inl x;exact Or.inr (Or.inr (Or.inr (Or.inr x)))))⟩
 |true=>?_
 have l1:r.pos+1<t.size:=by
  rcases j5 (r.pos+1) t.size with x|x
  ·exact x
  rw[dS x]at Y;simp[pw,ez,eW]at Y
 have hg:=vm (t:=t) (p:=r.pos+1+1) ⟨0,0,0⟩ oQ;have Y:=ag Y;cases q2:(Ch.guard t (r.pos+1+1) ⟨0,0,0⟩).1 with
 |false=>
  rw[show transition t D r=(false,{r with pos:=(Ch.guard t (r.pos+1+1) ⟨0,0,0⟩).2.2,dH:=eI (af t (r.pos+1)) (r.pos+1) r.dH})by simp[transition,Y.out,q2]];have q2:=ag q2;go_in;go_wp2_with fail;refine(bL b t (r.pos+1) _ hs.text hs.pos).mono ?_;rintro x I ⟨rfl,X,rfl⟩;have R1:=hs.drewN X;have Q:Kp (λk=>k=b) w ((w.setCell ⟨b,1,none⟩ (int i64 ((r.pos:Int)+1))).drewN X):=((Kp.refl _ _).setCell jF _).drewN _;generalize (w.setCell ⟨b,1,none⟩ (int i64 ((r.pos:Int)+1))).drewN X=I at R1 Q⊢;go_wp2_with fail;have G:rT (I.alloc (cells #[int i64 D,int .u8 (af t (r.pos+1)),int .u8 0,int .u8 0,int i64 0,slice none 0 0,int .u8 0] 209)) _ _ _ ⟨0,0,0⟩ _ _:=ak I _;have R:=R1.alloc (cells #[int i64 D,int .u8 (af t (r.pos+1)),int .u8 0,int .u8 0,int i64 0,slice none 0 0,int .u8 0] 209);have J:=Q.alloc (cells #[int i64 D,int .u8 (af t (r.pos+1)),int .u8 0,int .u8 0,int i64 0,slice none 0 0,int .u8 0] 209);have iL:=Q.size;generalize I.alloc (cells #[int i64 D,int .u8 (af t (r.pos+1)),int .u8 0,int .u8 0,int i64 0,slice none 0 0,int .u8 0] 209)=w2 at G R J⊢;generalize I.heap.size=tb at G iL⊢;have O2:=J.owns h.dH (λk hk e=>by subst e;exact aZ h.dH h.cj aV hk);have E:=rS B b t (r.pos+1) (int i64 0) (int i64 0) sv tv bv uv w2 r.dH R O2 (by have:=J.size;omega) oQ oQ;rw[Y]at E;refine bI E ?_;rintro x w3 ⟨rfl,OK,O,Z,F⟩;have U:=G.ne R;have T3:=G.aB F (λx=>by rcases x with x|x;exact U x;exact aZ O2 G aV x);have K3:=(J.mono (λ_ _ x=>Or.inl x)).trans F;have O:eF w3 b t (r.pos+1+1) (int i64 0) (int i64 0) sv tv bv OK:=O;go_wp2_with fail;have E:=y_ b tb t (r.pos+1+1) D (af t (r.pos+1)) 0 ⟨0,0,0⟩ (slice none 0 0) (int i64 0) (int i64 0) sv tv bv OK w3 O T3 oQ;rw[q2]at E;refine bI E ?_;rintro x w4 ⟨rfl,R4,T4,F⟩;have O4:=F.owns Z (λk hk e=>by rcases e with e|e;subst e;exact aZ Z O aV hk;subst e;exact aZ Z T3 aV hk);have K4:=K3.trans' F (λi hi e=>by rcases e with e|e;exact Or.inl e;omega);go_wp2;go_ret;exact⟨rfl,⟨_,_,_,_,_,_,h.Hk K4 (λ_ _ x=>x) R4 O4⟩,K4.below h.bV (λk x=>h.low (by rcases x with x|x;exact Or.inl x;exact Or.inr (Or.inr (Or.inr (Or.inr x)))))⟩
 |true=>?_
 have ha:=xY (t:=t) (cl:=62) (p:=(Ch.guard t (r.pos+1+1) ⟨0,0,0⟩).2.2) hg.2;have q2:=ag q2;cases q3:(bM t 62 (Ch.guard t (r.pos+1+1) ⟨0,0,0⟩).2.2).1 with
 |false=>
  rw[show transition t D r=(false,{r with pos:=(bM t 62 (Ch.guard t (r.pos+1+1) ⟨0,0,0⟩).2.2).2.2,dH:=eI (af t (r.pos+1)) (r.pos+1) r.dH})by simp[transition,Y.out,q2.out,q3]];have q3:=ag q3;go_in;go_wp2_with fail;refine(bL b t (r.pos+1) _ hs.text hs.pos).mono ?_;rintro x I ⟨rfl,X,rfl⟩;have R1:=hs.drewN X;have Q:Kp (λk=>k=b) w ((w.setCell ⟨b,1,none⟩ (int i64 ((r.pos:Int)+1))).drewN X):=((Kp.refl _ _).setCell jF _).drewN _;generalize (w.setCell ⟨b,1,none⟩ (int i64 ((r.pos:Int)+1))).drewN X=I at R1 Q⊢;go_wp2_with fail;have G:rT (I.alloc (cells #[int i64 D,int .u8 (af t (r.pos+1)),int .u8 0,int .u8 0,int i64 0,slice none 0 0,int .u8 0] 209)) _ _ _ ⟨0,0,0⟩ _ _:=ak I _;have R:=R1.alloc (cells #[int i64 D,int .u8 (af t (r.pos+1)),int .u8 0,int .u8 0,int i64 0,slice none 0 0,int .u8 0] 209);have J:=Q.alloc (cells #[int i64 D,int .u8 (af t (r.pos+1)),int .u8 0,int .u8 0,int i64 0,slice none 0 0,int .u8 0] 209);have iL:=Q.size;generalize I.alloc (cells #[int i64 D,int .u8 (af t (r.pos+1)),int .u8 0,int .u8 0,int i64 0,slice none 0 0,int .u8 0] 209)=w2 at G R J⊢;generalize I.heap.size=tb at G iL⊢;have O2:=J.owns h.dH (λk hk e=>by subst e;exact aZ h.dH h.cj aV hk);have E:=rS B b t (r.pos+1) (int i64 0) (int i64 0) sv tv bv uv w2 r.dH R O2 (by have:=J.size;omega) oQ oQ;rw[Y]at E;refine bI E ?_;rintro x w3 ⟨rfl,OK,O,Z,F⟩;have U:=G.ne R;have T3:=G.aB F (λx=>by rcases x with x|x;exact U x;exact aZ O2 G aV x);have K3:=(J.mono (λ_ _ x=>Or.inl x)).trans F;have O:eF w3 b t (r.pos+1+1) (int i64 0) (int i64 0) sv tv bv OK:=O;go_wp2_with fail;have E:=y_ b tb t (r.pos+1+1) D (af t (r.pos+1)) 0 ⟨0,0,0⟩ (slice none 0 0) (int i64 0) (int i64 0) sv tv bv OK w3 O T3 oQ;rw[q2]at E;refine bI E ?_;rintro x w4 ⟨rfl,R4,T4,F⟩;have O4:=F.owns Z (λk hk e=>by rcases e with e|e;subst e;exact aZ Z O aV hk;subst e;exact aZ Z T3 aV hk);have K4:=K3.trans' F (λi hi e=>by rcases e with e|e;exact Or.inl e;omega);go_wp2_with fail;have E:=xZ b t (Ch.guard t (r.pos+1+1) ⟨0,0,0⟩).2.2 (int i64 0) (int i64 0) sv tv bv OK w4 62 R4 hg.2 ht aV;rw[q3]at E;refine bI E ?_;rintro x w5 ⟨av,rfl,R5,A5,F,_⟩;have Yu:=T4.ne R4;have T5:=T4.aB F Yu;have O5:=F.owns O4 (λk hk e=>by subst e;exact aZ O4 R4 aV hk);have aI:=λk hk=>(A5.lt k hk).1;have a0:=K4.size;have aO:=T4.lt;have K5:=K4.trans' F (λi hi e=>Or.inl e);go_wp2;go_ret;exact⟨rfl,⟨_,_,_,_,_,_,h.Hk K5 (λ_ _ x=>x) R5 O5⟩,K5.below h.bV (λk x=>h.low (by rcases x with x|x;exact Or.inl x;exact Or.inr (Or.inr (Or.inr (Or.inr x)))))⟩
 |true=>?_
 rw[show transition t D r=(pX (af t (bM t 62 (Ch.guard t (r.pos+1+1) ⟨0,0,0⟩).2.2).2.2),
  {r with pos:=dI (pX (af t (bM t 62 (Ch.guard t (r.pos+1+1) ⟨0,0,0⟩).2.2).2.2)) (bM t 62 (Ch.guard t (r.pos+1+1) ⟨0,0,0⟩).2.2).2.2
          dF:=r.dF++[⟨D,af t (r.pos+1),(Ch.guard t (r.pos+1+1) ⟨0,0,0⟩).2.1,(bM t 62 (Ch.guard t (r.pos+1+1) ⟨0,0,0⟩).2.2).2.1,af t (bM t 62 (Ch.guard t (r.pos+1+1) ⟨0,0,0⟩).2.2).2.2⟩]
          dH:=eI (af t (bM t 62 (Ch.guard t (r.pos+1+1) ⟨0,0,0⟩).2.2).2.2) (bM t 62 (Ch.guard t (r.pos+1+1) ⟨0,0,0⟩).2.2).2.2 (eI (af t (r.pos+1)) (r.pos+1) r.dH)})by simp[transition,Y.out,q2.out,q3]]
 have q3:=ag q3;go_in;go_wp2_with fail;refine(bL b t (r.pos+1) _ hs.text hs.pos).mono ?_;rintro x I ⟨rfl,X,rfl⟩;have R1:=hs.drewN X;have Q:Kp (λk=>k=b) w ((w.setCell ⟨b,1,none⟩ (int i64 ((r.pos:Int)+1))).drewN X):=((Kp.refl _ _).setCell jF _).drewN _;generalize (w.setCell ⟨b,1,none⟩ (int i64 ((r.pos:Int)+1))).drewN X=I at R1 Q⊢;go_wp2_with fail;have G:rT (I.alloc (cells #[int i64 D,int .u8 (af t (r.pos+1)),int .u8 0,int .u8 0,int i64 0,slice none 0 0,int .u8 0] 209)) _ _ _ ⟨0,0,0⟩ _ _:=ak I _;have R:=R1.alloc (cells #[int i64 D,int .u8 (af t (r.pos+1)),int .u8 0,int .u8 0,int i64 0,slice none 0 0,int .u8 0] 209);have J:=Q.alloc (cells #[int i64 D,int .u8 (af t (r.pos+1)),int .u8 0,int .u8 0,int i64 0,slice none 0 0,int .u8 0] 209);have iL:=Q.size;generalize I.alloc (cells #[int i64 D,int .u8 (af t (r.pos+1)),int .u8 0,int .u8 0,int i64 0,slice none 0 0,int .u8 0] 209)=w2 at G R J⊢;generalize I.heap.size=tb at G iL⊢;have O2:=J.owns h.dH (λk hk e=>by subst e;exact aZ h.dH h.cj aV hk);have E:=rS B b t (r.pos+1) (int i64 0) (int i64 0) sv tv bv uv w2 r.dH R O2 (by have:=J.size;omega) oQ oQ;rw[Y]at E;refine bI E ?_;rintro x w3 ⟨rfl,OK,O,Z,F⟩;have U:=G.ne R;have T3:=G.aB F (λx=>by rcases x with x|x;exact U x;exact aZ O2 G aV x);have K3:=(J.mono (λ_ _ x=>Or.inl x)).trans F;have O:eF w3 b t (r.pos+1+1) (int i64 0) (int i64 0) sv tv bv OK:=O;go_wp2_with fail;have E:=y_ b tb t (r.pos+1+1) D (af t (r.pos+1)) 0 ⟨0,0,0⟩ (slice none 0 0) (int i64 0) (int i64 0) sv tv bv OK w3 O T3 oQ;rw[q2]at E;refine bI E ?_;rintro x w4 ⟨rfl,R4,T4,F⟩;have O4:=F.owns Z (λk hk e=>by rcases e with e|e;subst e;exact aZ Z O aV hk;subst e;exact aZ Z T3 aV hk);have K4:=K3.trans' F (λi hi e=>by rcases e with e|e;exact Or.inl e;omega);go_wp2_with fail;have E:=xZ b t (Ch.guard t (r.pos+1+1) ⟨0,0,0⟩).2.2 (int i64 0) (int i64 0) sv tv bv OK w4 62 R4 hg.2 ht aV;rw[q3]at E;refine bI E ?_;rintro x w5 ⟨av,rfl,R5,A5,F,_⟩;have Yu:=T4.ne R4;have T5:=T4.aB F Yu;have O5:=F.owns O4 (λk hk e=>by subst e;exact aZ O4 R4 aV hk);have aI:=λk hk=>(A5.lt k hk).1;have a0:=K4.size;have aO:=T4.lt;have K5:=K4.trans' F (λi hi e=>Or.inl e);obtain⟨ao,am,Dc,rfl⟩:=gu A5;have ab:=T5.ne R5;have cc:=T5.cell 5;have ff:=T5.free 5;simp only[gX,ir,iu]at cc;have HH:=rP R5 T5 K5 A5 O5;go_wp2_with fail;have⟨R5,T5,K5,A5,O5⟩:=HH;have R6:=R5.Az ab 5 (slice ao am Dc);have T6:=T5.y8 (slice ao am Dc);have K6:Kp _ _ (w5.setCell ⟨tb,5,none⟩ (slice ao am Dc)):=K5.setCell (by intro x;exact absurd x (by show¬tb<_;omega)) _;have A6:=nh A5 (a:=⟨tb,5,none⟩) (aZ A5 T5 aV) (slice ao am Dc);have O6:=nh O5 (a:=⟨tb,5,none⟩) (aZ O5 T5 aV) (slice ao am Dc);generalize w5.setCell ⟨tb,5,none⟩ (slice ao am Dc)=w6 at R6 T6 K6 A6 O6⊢;refine(bL b t (bM t 62 (Ch.guard t (r.pos+1+1) ⟨0,0,0⟩).2.2).2.2 _ R6.text R6.pos).mono ?_;rintro x wx ⟨rfl,nx,rfl⟩;have R7:=R6.drewN nx;have T7:=T6.drewN nx;have K7:=K6.drewN nx;have A7:(w6.drewN nx).ownsRow _ _ _ _ _ _:=A6;have O7:(w6.drewN nx).ownsRow _ _ _ _ _ _:=O6;generalize w6.drewN nx=w7 at R7 T7 K7 A7 O7⊢;obtain⟨pa,R_⟩:∃x,(bM t 62 (Ch.guard t (r.pos+1+1) ⟨0,0,0⟩).2.2).2.2=x:=⟨_,rfl⟩
 obtain⟨la,aj⟩:∃x,(bM t 62 (Ch.guard t (r.pos+1+1) ⟨0,0,0⟩).2.2).2.1=x:=⟨_,rfl⟩
 obtain⟨g1,ad⟩:∃x,(Ch.guard t (r.pos+1+1) ⟨0,0,0⟩).2.1=x:=⟨_,rfl⟩
 rw[R_]at R7 ha⊢;rw[aj]at A7;rw[ad]at T7;have HP:=c_ R_ aj ad;have cc:=T7.cell 6;have ff:=T7.free 6;simp only[gX,ir,iu]at cc;have HH:=rP R7 T7 K7 A7 O7;go_upto_region 14 with(fail);have⟨R7,T7,K7,A7,O7⟩:=HH;have R8:=R7.Az ab 6 (int .u8 (af t pa));have T8:=T7.Bq (af t pa);have K8:Kp _ _ (w7.setCell ⟨tb,6,none⟩ (int .u8 (af t pa))):=K7.setCell (by intro x;exact absurd x (by show¬tb<_;omega)) _;have A8:=nh A7 (a:=⟨tb,6,none⟩) (aZ A7 T7 aV) (int .u8 (af t pa));have O8:=nh O7 (a:=⟨tb,6,none⟩) (aZ O7 T7 aV) (int .u8 (af t pa));generalize w7.setCell ⟨tb,6,none⟩ (int .u8 (af t pa))=w8 at R8 T8 K8 A8 O8⊢;have F8:=h.Hk K8 (λ_ _ x=>x) R8 O8;have B8:=K8.below h.bV (λk x=>h.low (by rcases x with x|x;exact Or.inl x;exact Or.inr (Or.inr (Or.inr (Or.inr x)))));have ap:=vn (af t (r.pos+1)) (r.pos+1) r.dH;have A8:=cH A8 (show B<=w4.heap.size by omega);have a3:lt.length<=r.pos:=by have:=iw List.length h.G8;simp at this;omega
 generalize a1:eI (af t (r.pos+1)) (r.pos+1) r.dH=a2 at F8 O8 ap;have HU:=ag a1;have⟨i0,hi,hz0,hz1,hz2⟩:=cr OJ;have m0:=T8.cell 0;have m1:=T8.cell 1;have m2:=T8.cell 2;have m3:=T8.cell 3;have m4:=T8.cell 4;have m5:=T8.cell 5;have m6:=T8.cell 6;simp only[gX,ir,iu]at m0 m1 m2 m3 m4 m5 m6;have c5:=R8.c5;have a4:=λo=>(R8.alloc o).c5;have f5:=R8.free 5;have aS:=ag (aZ F8.dF R8 aV);have Sa:=ag F8.bV;have HH:=fM R8 F8 A8 B8;go_region_law (refine jf rfl (tmp 45) (tmp 47) 84 rfl B 209 i0 (agg #[int i64 0,int .u8 0,int .u8 0,int .u8 0,int i64 0,slice none 0 0,int .u8 0]) 7 64 underlying84 hi hz0 hz1 hz2 rfl aV tv lt.length (uk lt) nQ (by exact HH.2.1.dF.alloc _) ⟨w8.heap.size,0,none⟩ 1 1 [int i64 D,int .u8 (af t (r.pos+1)),int .u8 g1.var,int .u8 g1.sign,int i64 g1.digit,slice ao am Dc,int .u8 (af t pa)] nQ rfl (by exact eZ _ _ _) (by intro u hu;simp at hu;rcases hu with rfl|rfl|rfl|rfl|rfl|rfl|rfl<;>rfl) aV wY oQ (by have:=Sa.out;simp;omega) ?_;intro g aa w9 o9 g9;have R9:eF w9 b t pa (int i64 0) (int i64 0) sv tv bv OK:=eF.grown (by exact HH.1.alloc (cells #[int i64 D,int .u8 (af t (r.pos+1)),int .u8 g1.var,int .u8 g1.sign,int i64 g1.digit,slice ao am Dc,int .u8 (af t pa)] 209)) g9 aS;have K9:Kp (λk=>k=b\/tv.ownBlock=some k) w8 w9:=Kp.grown (by exact((Kp.refl _ _).alloc (cells #[int i64 D,int .u8 (af t (r.pos+1)),int .u8 g1.var,int .u8 g1.sign,int i64 g1.digit,slice ao am Dc,int .u8 (af t pa)] 209)).drew) g9 (λk hk _=>Or.inr hk);have x1:=R9.c5;have x2:=R9.free 5;have H9:=c_ R9 o9 K9)
 all_goals
  have⟨R9,o9,K9⟩:=H9;have⟨R8,F8,A8,B8⟩:=HH;have Ra:=R9.y8 (slice (some ⟨g,0,none⟩) (lt.length+1) aa);have Oa:=nh o9 (a:=⟨b,5,none⟩) (aZ o9 R9 aV) (slice (some ⟨g,0,none⟩) (lt.length+1) aa);have Ka:Kp _ _ (w9.setCell ⟨b,5,none⟩ (slice (some ⟨g,0,none⟩) (lt.length+1) aa)):=K9.setCell (by intro _;exact Or.inl rfl) _;generalize w9.setCell ⟨b,5,none⟩ (slice (some ⟨g,0,none⟩) (lt.length+1) aa)=wa at Ra Oa Ka⊢;have Aa:=Ka.owns A8 (λk hk x=>by rcases x with x|x;subst x;exact aZ A8 R8 aV hk;exact cJ A8 F8.dF aV k hk x);have Fa:=F8.adV Ka (λ_ _ x=>x) (x:=(⟨D,af t (r.pos+1),g1,la,af t pa⟩,slice ao am Dc)) Ra (by rw[FB];simpa using Oa) Aa;have Ba:=B8.trans (Ka.below F8.bV (λk x=>F8.low (by rcases x with x|x;exact Or.inl x;exact Or.inr (Or.inr (Or.inl x)))));go_wp2_with fail;refine(KY B b t pa (int i64 0) (int i64 0) sv _ bv OK wa a2 Fa.cj Fa.dH Fa.bV oQ oQ).mono ?_;rintro x wb ⟨rfl,a6,Rb,Ob,Kb⟩;have Fb:=Fa.Hk Kb (λ_ _ x=>x) Rb Ob;have Bb:=Ba.trans (Kb.below Fa.bV (λk x=>Fa.low (by rcases x with x|x;exact Or.inl x;exact Or.inr (Or.inr (Or.inr (Or.inr x))))));go_wp2;go_ret;have⟨e1,e2,e3⟩:=HP;rw[e1,e2,e3,HU];exact⟨rfl,⟨_,_,_,_,_,_,Fb⟩,Bb⟩
theorem OL:(prog.info? 282).map (λi=>(i.zero,i.size,i.bytes))=some (some (agg #[int i64 0,int .u8 0,slice none 0 0]),3,40):=bZ
def D0(w:World)(tb:Nat)(s sg:Int)(ac:Value):Prop:=w.heap[tb]? =some (cells #[int i64 s,int .u8 sg,ac] 282 (0,0))
section
variable {w:World} {tb:Nat} {s sg:Int} {ac:Value}
theorem D0.cell(h:D0 w tb s sg ac)i:w.cell? ⟨tb,i,none⟩= #[int i64 s,int .u8 sg,ac][i]?:=by unfold D0 at h;simp[World.cell?,h]
theorem D0.free(h:D0 w tb s sg ac)i:w.frozen? ⟨tb,i,none⟩=false:=by unfold D0 at h;simp[World.frozen?,h]
theorem D0.Br(h:D0 w tb s sg ac)x:D0 (w.setCell ⟨tb,2,none⟩ x) tb s sg x:=by unfold D0 at*;rw[ar _ h];rfl
theorem D0.aB{S w'}(h:D0 w tb s sg ac)(k:Kp S w w')(hs:¬S tb):D0 w' tb s sg ac:=Kp.at_ k h hs
theorem D0.lt(h:D0 w tb s sg ac):tb<w.heap.size:=aR h
theorem D0.ne{b t p e f sv tv bv uv}(h:D0 w tb s sg ac)(k:eF w b t p e f sv tv bv uv):tb≠b:=by
 grind[D0,eF]
end
def Ch.block(t:ByteArray)(D:Int)(r:Rs):Bool×Rs:=
 if(bM t 59 (r.pos+1)).1 then(true,{r with pos:=(bM t 59 (r.pos+1)).2.2,fH:=r.fH++[⟨D,af t r.pos,(bM t 59 (r.pos+1)).2.1⟩]})
 else(false,{r with pos:=(bM t 59 (r.pos+1)).2.2})
theorem wg B b t w D r(H:Rd w B b t r)(hd:Bd r)(hp:r.pos<t.size)(ht:t.size<=240):
 Calls prog 215 #[pointer (some ⟨b,0,none⟩),int i64 D] w λx w'=>x=returned (bool (Ch.block t D r).1)/\Rd w' B b t (Ch.block t D r).2/\Below B w w':=by
 have⟨sv,tv,bv,uv,lt,lb,h⟩:=H;have⟨d1,d2,d3,d4⟩:=hd;have a1:=h.bV;have ha:=xY (t:=t) (cl:=59) (p:=r.pos+1) oQ;cases q3:(bM t 59 (r.pos+1)).1 with
 |false=>
  rw[show Ch.block t D r=(false,{r with pos:=(bM t 59 (r.pos+1)).2.2})by simp[Ch.block,q3]];have q3:=ag q3;go_in;go_wp;refine b9 (bL b t r.pos _ h.cj.text h.cj.pos) ?_;rintro I ⟨n1,rfl⟩;have F:=h.cj.drewN n1;have G:Kp (λk=>k=b) w (w.drewN n1):=(Kp.refl _ _).drewN _;generalize w.drewN n1=I at F G⊢;have ab:=λo=>(F.alloc o).pos;have ad:=λo=>(F.alloc o).free 1;have aj:=F.lt;have O:=bw F G;clear F G;go_wp21;have⟨F,G⟩:=O;clear O ab ad;have X:D0 ((I.setCell ⟨b,1,none⟩ (int i64 ((r.pos:Int)+1))).alloc (cells #[int i64 D,int .u8 (af t r.pos),slice none 0 0] 282)) I.heap.size D (af t r.pos) (slice none 0 0):=by
   have e:=ak (I.setCell ⟨b,1,none⟩ (int i64 ((r.pos:Int)+1))) (cells #[int i64 D,int .u8 (af t r.pos),slice none 0 0] 282);rw[World.size_setCell]at e;exact e
  have R2:=F.step.alloc (cells #[int i64 D,int .u8 (af t r.pos),slice none 0 0] 282);have Z:Kp _ _ ((I.setCell ⟨b,1,none⟩ (int i64 ((r.pos:Int)+1))).alloc (cells #[int i64 D,int .u8 (af t r.pos),slice none 0 0] 282)):=(G.setCell jF _).alloc _;have iL:=G.size;generalize ((I.setCell ⟨b,1,none⟩ (int i64 ((r.pos:Int)+1))).alloc (cells #[int i64 D,int .u8 (af t r.pos),slice none 0 0] 282))=w2 at X R2 Z⊢;generalize I.heap.size=tb at X iL aj⊢;clear F G;have E:=xZ b t (r.pos+1) (int i64 0) (int i64 0) sv tv bv uv w2 59 R2 oQ ht aV;rw[q3]at E;refine bI E ?_;rintro x w5 ⟨av,rfl,R5,A5,Kx,_⟩;have J:=X.ne R2;have T5:=X.aB Kx J;have K5:=Z.trans Kx;have aS:=Z.size;clear E Kx X R2 Z;go_wp2;go_ret;exact⟨rfl,⟨_,_,_,_,_,_,h.move K5 (λ_ _ x=>x) R5⟩,K5.below h.bV (λk x=>h.low (Or.inl x))⟩
 |true=>?_
 rw[show Ch.block t D r=(true,{r with pos:=(bM t 59 (r.pos+1)).2.2,fH:=r.fH++[⟨D,af t r.pos,(bM t 59 (r.pos+1)).2.1⟩]})by simp[Ch.block,q3]];have q3:=ag q3;go_in;go_wp;refine b9 (bL b t r.pos _ h.cj.text h.cj.pos) ?_;rintro I ⟨n1,rfl⟩;have F:=h.cj.drewN n1;have G:Kp (λk=>k=b) w (w.drewN n1):=(Kp.refl _ _).drewN _;generalize w.drewN n1=I at F G⊢;have ab:=λo=>(F.alloc o).pos;have ad:=λo=>(F.alloc o).free 1;have aj:=F.lt;have O:=bw F G;clear F G;go_wp21;have⟨F,G⟩:=O;clear O ab ad;have X:D0 ((I.setCell ⟨b,1,none⟩ (int i64 ((r.pos:Int)+1))).alloc (cells #[int i64 D,int .u8 (af t r.pos),slice none 0 0] 282)) I.heap.size D (af t r.pos) (slice none 0 0):=by
  have e:=ak (I.setCell ⟨b,1,none⟩ (int i64 ((r.pos:Int)+1))) (cells #[int i64 D,int .u8 (af t r.pos),slice none 0 0] 282);rw[World.size_setCell]at e;exact e
 have R2:=F.step.alloc (cells #[int i64 D,int .u8 (af t r.pos),slice none 0 0] 282);have Z:Kp _ _ ((I.setCell ⟨b,1,none⟩ (int i64 ((r.pos:Int)+1))).alloc (cells #[int i64 D,int .u8 (af t r.pos),slice none 0 0] 282)):=(G.setCell jF _).alloc _;have iL:=G.size;generalize ((I.setCell ⟨b,1,none⟩ (int i64 ((r.pos:Int)+1))).alloc (cells #[int i64 D,int .u8 (af t r.pos),slice none 0 0] 282))=w2 at X R2 Z⊢;generalize I.heap.size=tb at X iL aj⊢;clear F G;have E:=xZ b t (r.pos+1) (int i64 0) (int i64 0) sv tv bv uv w2 59 R2 oQ ht aV;rw[q3]at E;refine bI E ?_;rintro x w5 ⟨av,rfl,R5,A5,Kx,_⟩;have J:=X.ne R2;have T5:=X.aB Kx J;have K5:=Z.trans Kx;have aS:=Z.size;clear E Kx X R2 Z;obtain⟨ao,am,Y,rfl⟩:=gu A5;have cc:=T5.cell 2;have ff:=T5.free 2;simp only[gX,ir,iu]at cc;have O:=fM R5 T5 K5 A5;clear R5 T5 K5 A5;go_upto_region 7 with fail;have⟨R5,T5,K5,A5⟩:=O;clear O cc ff;have Q:=R5.Az J 2 (slice ao am Y);have T8:=T5.Br (slice ao am Y);have K8:Kp _ _ (w5.setCell ⟨tb,2,none⟩ (slice ao am Y)):=K5.setCell (by intro x;exact absurd x (by show¬tb<_;omega)) _;have R:=nh A5 (a:=⟨tb,2,none⟩) (aZ A5 T5 aV) (slice ao am Y);generalize w5.setCell ⟨tb,2,none⟩ (slice ao am Y)=w8 at Q T8 K8 R⊢;clear R5 T5 K5 A5;have U:=h.move K8 (λ_ _ x=>x) Q;have B8:=K8.below h.bV (λk x=>h.low (Or.inl x));have R:=cH R (show B<=w2.heap.size by omega);have a0:lb.length<=r.pos:=by have:=iw List.length h.Kj;simp at this;omega
 have⟨i0,hi,hz0,hz1,hz2⟩:=cr OL;obtain⟨pa,R_⟩:∃x,(bM t 59 (r.pos+1)).2.2=x:=⟨_,rfl⟩
 obtain⟨la,ap⟩:∃x,(bM t 59 (r.pos+1)).2.1=x:=⟨_,rfl⟩
 rw[R_]at Q U ha;rw[ap]at R;have HP:=bw R_ ap;clear R_ ap q3 K8 h;have m0:=T8.cell 0;have m1:=T8.cell 1;have m2:=T8.cell 2;simp only[gX,ir,iu]at m0 m1 m2;have c6:=Q.c6;have aI:=λo=>(Q.alloc o).c6;have f6:=Q.free 6;have aO:=ag (aZ U.fH Q aV);have Sa:=ag U.bV;have O:=fM Q U R B8;clear Q U R T8 B8;go_region_law (refine jf rfl (tmp 33) (tmp 35) 85 rfl B 282 i0 (agg #[int i64 0,int .u8 0,slice none 0 0]) 3 40 underlying85 hi hz0 hz1 hz2 rfl aV bv lb.length (um lb) nQ (by exact O.2.1.fH.alloc _) ⟨w8.heap.size,0,none⟩ 1 1 [int i64 D,int .u8 (af t r.pos),slice ao am Y] nQ rfl (by exact eZ _ _ _) (by intro u hu;simp at hu;rcases hu with rfl|rfl|rfl<;>rfl) aV wY oQ (by have:=Sa.out;simp;omega) ?_;intro g aa w9 o9 g9;have R9:eF w9 b t pa (int i64 0) (int i64 0) sv tv bv uv:=eF.grown (by exact O.1.alloc (cells #[int i64 D,int .u8 (af t r.pos),slice ao am Y] 282)) g9 aO;have K9:Kp (λk=>k=b\/bv.ownBlock=some k) w8 w9:=Kp.grown (by exact((Kp.refl _ _).alloc (cells #[int i64 D,int .u8 (af t r.pos),slice ao am Y] 282)).drew) g9 (λk hk _=>Or.inr hk);have x1:=R9.c6;have x2:=R9.free 6;have H9:=c_ R9 o9 K9;clear R9 o9 K9 g9)
 all_goals
  have⟨R9,o9,K9⟩:=H9;have⟨Q,U,R,B8⟩:=O;clear x1 x2 H9 O m0 m1 m2 c6 aI f6;have Ra:=R9.Bq (slice (some ⟨g,0,none⟩) (lb.length+1) aa);have Oa:=nh o9 (a:=⟨b,6,none⟩) (aZ o9 R9 aV) (slice (some ⟨g,0,none⟩) (lb.length+1) aa);have Ka:Kp _ _ (w9.setCell ⟨b,6,none⟩ (slice (some ⟨g,0,none⟩) (lb.length+1) aa)):=K9.setCell (by intro _;exact Or.inl rfl) _;generalize w9.setCell ⟨b,6,none⟩ (slice (some ⟨g,0,none⟩) (lb.length+1) aa)=wa at Ra Oa Ka⊢;have Aa:=Ka.owns R (λk hk x=>by rcases x with x|x;subst x;exact aZ R Q aV hk;exact cJ R U.fH aV k hk x);have Fa:=U.adW Ka (λ_ _ x=>x) (x:=(⟨D,af t r.pos,la⟩,slice ao am Y)) Ra (by rw[FC];simpa using Oa) Aa;have Ba:=B8.trans (Ka.below U.bV (λk x=>U.low (by rcases x with x|x;exact Or.inl x;exact Or.inr (Or.inr (Or.inr (Or.inl x))))));clear R9 o9 K9 Q U R B8 Ka Oa Ra Aa;go_wp2;go_ret;have⟨e1,e2⟩:=HP;rw[e1,e2];exact⟨rfl,⟨_,_,_,_,_,_,Fa⟩,Ba⟩
theorem amk:(prog.info? 155).map (λi=>(i.zero,i.size,i.bytes))=some (some (agg #[int .u8 0,int i64 0,int i64 0,int i64 0]),4,32):=bZ
def Ch.cI(parent:Int)(ss:List St):List St:=
 match parent with
 | .ofNat k=>match ss[k]? with
   |some s=>if s.kind==1 then ss.set k {s with kind:=2}else ss
   |none=>ss
 | .negSucc _=>ss
theorem Bt ss k s(h:ss[k]? =some s):
 (gU ss)[k*4]? =some (int .u8 s.name)/\(gU ss)[k*4+1]? =some (int i64 s.pos)/\(gU ss)[k*4+2]? =some (int i64 s.kind)/\(gU ss)[k*4+3]? =some (int i64 s.parent):=by
 induction ss generalizing k with
 |nil=>simp_all
 |cons a l D=>?_
 cases k with
 |zero=>grind[gU]
 |succ k=>?_
 grind[gU]
theorem Hl ss k s x(h:ss[k]? =some s):(gU ss).set (k*4+2) (int i64 x)=gU (ss.set k {s with kind:=x}):=by
 induction ss generalizing k with
 |nil=>simp_all
 |cons a l D=>?_
 have e:∀(a:St) l,gU (a::l)= int .u8 a.name:: int i64 a.pos:: int i64 a.kind:: int i64 a.parent::gU l:=by intro a l;simp[gU]
 cases k with
 |zero=>simp_all
 |succ k=>?_
 grind
section
variable (B b:Nat) (t:ByteArray) (p:Nat) (e f sv tv bv uv:Value) (w:World)
theorem Bu parent ss(h:eF w b t p e f sv tv bv uv)(D:w.ownsRow B 155 4 sv ss.length (gU ss))(hl:ss.length<=1000):
 Calls prog 213 #[pointer (some ⟨b,0,none⟩),int i64 parent] w λx w'=>x=returned (tuple #[])/\eF w' b t p e f sv tv bv uv/\
  w'.ownsRow B 155 4 sv (cI parent ss).length (gU (cI parent ss))/\Kp (λk=>k=b\/sv.ownBlock=some k) w w':=by
 have c4:=h.c4;by_cases Q:parent<0
 ·have e0:cI parent ss=ss:=by
   cases parent with
   |ofNat k=>exact absurd Q dy
   |negSucc k=>rfl
  rw[e0];have H:=bw h D;go_in;go_wp2;refine aJ (nk rfl _ _ _) rfl ?_;exact⟨rfl,H.1,H.2,Kp.refl _ _⟩
 obtain⟨k,rfl⟩:∃k:Nat,parent=(k:Int):=⟨parent.toNat,oQ⟩
 by_cases R:k<ss.length
 ·obtain⟨g,J,rfl⟩:=jn D oQ;obtain⟨s,hs⟩:∃s,ss[k]? =some s:=⟨_,au R⟩
  have cz:=D.cellAt (k*4+2) oQ;rw[(Bt ss k s hs).2.2.1]at cz;have fz:=D.frozenAt (k*4+2);have U:decide ((k:Int)<0)=false:=dy;have Y:(k:Int)<ss.length:=oQ;have H:=c_ h D hs;cases hk:s.kind==1 with
  |false=>
   have E:=ag (show cI (k:Int) ss=ss by show(match ss[k]? with|some s=>_|none=>_)=_;rw[H.2.2];simp[hk]);go_in;go_wp2;go_end0
   rw[E];exact⟨rfl,H.1,H.2.1,Kp.refl _ _⟩
  |true=>?_
  have E:=ag (show cI (k:Int) ss=ss.set k {s with kind:=2}by show(match ss[k]? with|some s=>_|none=>_)=_;rw[H.2.2];simp[hk]);have F:=ag (aZ H.2.1 H.1 aV);go_in;go_wp2;go_end0
  rw[E];have⟨h,D,hs⟩:=H;have G:=(D.stored (k*4+2) (int i64 2)).1;rw[Hl ss k s 2 hs]at G;refine⟨rfl,h.Az (λx=>F (by simp[Value.ownBlock,x])) _ _,by simpa using G,(Kp.refl _ _).setCell RH _⟩
 have e0:cI (k:Int) ss=ss:=by show(match ss[k]? with|some s=>_|none=>_)=_;rw[List.getElem?_eq_none oQ]
 rw[e0];obtain⟨ao,I,Z,rfl⟩:=gu D;have hm:I=ss.length:=by
  rcases D.2 with⟨x,y⟩|⟨g,cp,O,x,_⟩
  ·simp at x;omega
  simp at x;omega
 subst hm;have U:decide ((k:Int)<0)=false:=dy;have X:(ss.length:Int)<=k:=oQ;have H:=bw h D;go_in;go_wp2;refine aJ (nk rfl _ _ _) rfl ?_;exact⟨rfl,H.1,H.2,Kp.refl _ _⟩
def Ch.bB(t:ByteArray)(op parent:Int)(r:Rs):Bool×Rs:=
 if eW (af t r.pos)then(true,{r with pos:=r.pos+1,ah:=cI parent (r.ah++[⟨af t r.pos,r.pos,fU op,parent⟩])})else(false,r)
theorem Ch.iQ parent ss:(cI parent ss).length=ss.length:=by
 unfold cI;split
 ·grind
 rfl
theorem l0 op parent r(H:Rd w B b t r)(hd:Bd r)(ht:t.size<=240)(hp:r.pos<=t.size):
 Calls prog 155 #[pointer (some ⟨b,0,none⟩),int .u8 op,int i64 parent] w λx w'=>x=returned (bool (bB t op parent r).1)/\Rd w' B b t (bB t op parent r).2/\Below B w w':=by
 have⟨sv,tv,bv,uv,lt,lb,h⟩:=H;have⟨d1,d2,d3,d4⟩:=hd;have ad:=h.bV;cases I:eW (af t r.pos)with
 |false=>
  rw[show bB t op parent r=(false,r)by simp[bB,I]];have I:=ag I;go_in;go_wp;refine b9 (bL b t r.pos _ h.cj.text h.cj.pos) ?_;rintro w1 ⟨G,rfl⟩;go_wp21;have E:=kX (af t r.pos) (w.drewN G);rw[I]at E;refine bI E ?_;rintro x w2 ⟨rfl,rfl⟩;go_wp2;go_ret;have O:Kp (λk=>k=b) w (w.drewN G):=(Kp.refl _ _).drewN _;exact⟨rfl,⟨_,_,_,_,_,_,h.move O (λ_ _ x=>x) (h.cj.drewN G)⟩,O.below h.bV (λk x=>h.low (Or.inl x))⟩
 |true=>?_
 rw[show bB t op parent r=(true,{r with pos:=r.pos+1,ah:=cI parent (r.ah++[⟨af t r.pos,r.pos,fU op,parent⟩])})by simp[bB,I]];have I:=ag I;have⟨i0,hi,hz0,hz1,hz2⟩:=cr amk;go_in;go_wp21;refine(bL b t r.pos _ h.cj.text h.cj.pos).mono ?_;rintro x w1 ⟨rfl,G,rfl⟩;go_wp2_with fail;have E:=kX (af t r.pos) (w.drewN G);rw[I]at E;refine bI E ?_;rintro x w2 ⟨rfl,rfl⟩;go_wp21;refine(KP op _).mono ?_;rintro x w2 ⟨rfl,rfl⟩;have O:Kp (λk=>k=b) w (w.drewN G):=(Kp.refl _ _).drewN _;have R:=h.move O (λ_ _ x=>x) (h.cj.drewN G);have B1:=O.below h.bV (λk x=>h.low (Or.inl x));generalize w.drewN G=w8 at O R B1⊢;have J:=R.cj;have c1:=J.pos;have c4:=J.c4;have ab:=λo=>(J.alloc o).c4;have f4:=J.free 4;have aa:=ag (aZ R.ah J aV);have Sa:=ag R.bV;have X:=c_ J R B1;go_upto_region 5 with fail;go_region_law (refine jf rfl (tmp 21) (tmp 30) 83 rfl B 155 i0 (agg #[int .u8 0,int i64 0,int i64 0,int i64 0]) 4 32 underlying83 hi hz0 hz1 hz2 rfl aV sv r.ah.length (gU r.ah) nQ (by exact X.2.1.ah.alloc _) ⟨w8.heap.size,0,none⟩ 1 1 [int .u8 (af t r.pos),int i64 r.pos,int i64 (fU op),int i64 parent] nQ rfl (by exact eZ _ _ _) (by intro u hu;simp at hu;rcases hu with rfl|rfl|rfl|rfl<;>rfl) aV wY oQ (by have:=Sa.out;simp;omega) ?_;intro g D Z Y g9;have Q:eF Z b t r.pos (int i64 0) (int i64 0) sv tv bv uv:=eF.grown (by exact X.1.alloc (cells #[int .u8 (af t r.pos),int i64 r.pos,int i64 (fU op),int i64 parent] 155)) g9 aa;have K9:Kp (λk=>k=b\/sv.ownBlock=some k) w8 Z:=Kp.grown (by exact((Kp.refl _ _).alloc (cells #[int .u8 (af t r.pos),int i64 r.pos,int i64 (fU op),int i64 parent] 155)).drew) g9 (λk hk _=>Or.inr hk);have x1:=Q.c4;have x2:=Q.free 4;have H9:=c_ Q Y K9)
 all_goals
  have⟨Q,Y,K9⟩:=H9;have⟨J,F8,B8⟩:=X;have Ra:=Q.Ys (slice (some ⟨g,0,none⟩) (r.ah.length+1) D);have Oa:=nh Y (a:=⟨b,4,none⟩) (aZ Y Q aV) (slice (some ⟨g,0,none⟩) (r.ah.length+1) D);have Ka:Kp _ _ (Z.setCell ⟨b,4,none⟩ (slice (some ⟨g,0,none⟩) (r.ah.length+1) D)):=K9.setCell (by intro _;exact Or.inl rfl) _;generalize Z.setCell ⟨b,4,none⟩ (slice (some ⟨g,0,none⟩) (r.ah.length+1) D)=wa at Ra Oa Ka⊢;have U:=F8.aaL Ka (λ_ _ x=>x) (ss:=r.ah++[⟨af t r.pos,r.pos,fU op,parent⟩]) Ra (by rw[Fz];simpa using Oa);have Ba:=B8.trans (Ka.below F8.bV (λk x=>F8.low (by rcases x with x|x;exact Or.inl x;exact Or.inr (Or.inl x))));go_wp;refine b9 (Bu B b t r.pos (int i64 0) (int i64 0) _ tv bv uv wa parent _ U.cj U.ah il) ?_;rintro wb ⟨Rb,Ob,Kb⟩;have F:=U.aaL Kb (λ_ _ x=>x) Rb Ob;have Bb:=Ba.trans (Kb.below U.bV (λk x=>U.low (by rcases x with x|x;exact Or.inl x;exact Or.inr (Or.inl x))));have y1:=F.cj.pos;have y2:=F.cj.free 1;have X:=bw F Bb;go_wp2;go_ret;have⟨F,Bb⟩:=X;have Kc:Kp (λk=>k=b) wb (wb.setCell ⟨b,1,none⟩ (int i64 ((r.pos:Int)+1))):=(Kp.refl _ _).setCell jF _;exact⟨rfl,⟨_,_,_,_,_,_,F.move Kc (λ_ _ x=>x) F.cj.step⟩,Bb.trans (Kc.below F.bV (λk x=>F.low (Or.inl x)))⟩
end
def Ch.et(c:Int):Bool:=c==40||c==91||c==60||c==42
def Ch.bW(t:ByteArray)(it:Int->Int->Rs->Bool×Rs)(parent:Int)(r:Rs):Bool×Rs:=
 if(bB t (af t r.pos) parent {r with pos:=r.pos+1}).1 then
  if af t r.pos==40 then it r.ah.length 41 (bB t (af t r.pos) parent {r with pos:=r.pos+1}).2
  else if af t r.pos==91 then it r.ah.length 93 (bB t (af t r.pos) parent {r with pos:=r.pos+1}).2
  else if af t r.pos==60 then
   (af t (bB t (af t r.pos) parent {r with pos:=r.pos+1}).2.pos==62,
    {(bB t (af t r.pos) parent {r with pos:=r.pos+1}).2 with
     pos:=dI (af t (bB t (af t r.pos) parent {r with pos:=r.pos+1}).2.pos==62) (bB t (af t r.pos) parent {r with pos:=r.pos+1}).2.pos})
  else(true,(bB t (af t r.pos) parent {r with pos:=r.pos+1}).2)
 else(false,(bB t (af t r.pos) parent {r with pos:=r.pos+1}).2)
def Ch.a_(t:ByteArray):Nat->Int->Int->Rs->Bool×Rs
 |0=>λ_ _ r=>(false,r)
 |n+1=>λself cl r=>
  if et (af t r.pos)then
   if(bW t (a_ t n) self r).1 then a_ t n self cl (bW t (a_ t n) self r).2 else(false,(bW t (a_ t n) self r).2)
  else if af t r.pos==58 then
   if(transition t self r).1 then a_ t n self cl (transition t self r).2 else(false,(transition t self r).2)
  else if af t r.pos==94||af t r.pos==36 then
   if(Ch.block t self r).1 then a_ t n self cl (Ch.block t self r).2 else(false,(Ch.block t self r).2)
  else(af t r.pos==cl,{r with pos:=dI (af t r.pos==cl) r.pos})
def Ch.Ok(t:ByteArray)(r:Rs):Prop:=Bd r/\r.pos<=t.size
theorem Ch.ki{t r}D(O:r.pos<t.size)(h:Ok t r):Ok t (transition t D r).2/\r.pos<(transition t D r).2.pos:=by
 have⟨⟨d1,d2,d3,d4⟩,_⟩:=h;unfold transition;have U:=vn (af t (r.pos+1)) (r.pos+1) r.dH;split
 ·rename_i Y;have Q:r.pos+1<t.size:=by
   grind[dS,pw,ez,eW]
  have I:=vm (t:=t) (p:=r.pos+1+1) ⟨0,0,0⟩ oQ;generalize Ch.guard t (r.pos+1+1) ⟨0,0,0⟩=F at*;have G:=xY (t:=t) (cl:=62) (p:=F.2.2) I.2;generalize bM t 62 F.2.2=E at*;split
  ·split
   ·have X:=vn (af t E.2.2) E.2.2 (eI (af t (r.pos+1)) (r.pos+1) r.dH);have J:=kV (t:=t) (ok:=pX (af t E.2.2)) (p:=E.2.2) G.2 (λq=>by
     rcases j5 E.2.2 t.size with x|x
     ·exact x
     rw[dS x]at q;simp[pX,eW]at q)
    have R:=oh (pX (af t E.2.2)) E.2.2;refine⟨⟨⟨?_,?_,?_,?_⟩,J⟩,?_⟩<;>simp only[ix,e_,kN]<;>omega
   refine⟨⟨⟨?_,?_,?_,?_⟩,G.2⟩,?_⟩<;>simp only<;>omega
  refine⟨⟨⟨?_,?_,?_,?_⟩,I.2⟩,?_⟩<;>simp only<;>omega
 refine⟨⟨⟨?_,?_,?_,?_⟩,?_⟩,?_⟩<;>simp only<;>omega
theorem Ch.s9{t r}D(F:r.pos<t.size)(h:Ok t r):Ok t (Ch.block t D r).2/\r.pos<(Ch.block t D r).2.pos:=by
 have⟨⟨d1,d2,d3,d4⟩,_⟩:=h;have E:=xY (t:=t) (cl:=59) (p:=r.pos+1) oQ;unfold Ch.block;split
 ·refine⟨⟨⟨?_,?_,?_,?_⟩,E.2⟩,?_⟩<;>simp only[ix,e_,kN]<;>omega
 refine⟨⟨⟨?_,?_,?_,?_⟩,E.2⟩,?_⟩<;>simp only<;>omega
theorem Ch.ny{t r}op parent(h:Ok t r):Ok t (bB t op parent r).2/\r.pos<=(bB t op parent r).2.pos:=by
 have⟨⟨d1,d2,d3,d4⟩,h5⟩:=h;unfold bB;split
 ·rename_i q;have:=ow q;refine⟨⟨⟨?_,?_,?_,?_⟩,?_⟩,?_⟩<;>simp only[iQ,ix,e_,kN]<;>omega
 exact⟨⟨⟨d1,d2,d3,d4⟩,h5⟩,aC _⟩
theorem Ch.kj{t r it}(Kk:∀a c s,c≠0->Ok t s->Ok t (it a c s).2/\s.pos<=(it a c s).2.pos)parent(F:r.pos<t.size)(h:Ok t r):
 Ok t (bW t it parent r).2/\r.pos<(bW t it parent r).2.pos:=by
 have⟨⟨d1,d2,d3,d4⟩,h5⟩:=h;have D:=ny (t:=t) (r:={r with pos:=r.pos+1}) (af t r.pos) parent ⟨⟨by simp only;omega,by simp only;omega,by simp only;omega,by simp only;omega⟩,by simp only;omega⟩;unfold bW;generalize bB t (af t r.pos) parent {r with pos:=r.pos+1}=s at*;have⟨hs,hs2⟩:=D;simp only at hs2;split
 ·split
  ·grind
  split
  ·grind
  split
  ·have⟨⟨e1,e2,e3,e4⟩,e5⟩:=hs;have E:=kV (t:=t) (ok:=af t s.2.pos==62) (p:=s.2.pos) e5 (eo aV);have G:=oh (af t s.2.pos==62) s.2.pos;refine⟨⟨⟨?_,?_,?_,?_⟩,E⟩,?_⟩<;>simp only<;>omega
  grind
 grind
theorem Ch.k6{t p}(h:et (af t p)=true):p<t.size:=by
 grind[dS,et]
theorem Ch.lk{t}:∀ n D cl r,cl≠0->Ok t r->Ok t (a_ t n D cl r).2/\r.pos<=(a_ t n D cl r).2.pos:=by
 intro n;induction n with
 |zero=>intro D cl r _ h;exact⟨h,aC _⟩
 |succ n G=>?_
 intro D cl r E h;simp only[a_];split
 ·grind[kj,k6,bW,a_]
 split
 ·rename_i q;have hs:=ki D (eo aV q) h;grind
 split
 ·grind[dS,s9,Ch.block]
 have⟨⟨e1,e2,e3,e4⟩,e5⟩:=h;have F:=kV (t:=t) (ok:=af t r.pos==cl) (p:=r.pos) e5 (eo E);have I:=oh (af t r.pos==cl) r.pos;refine⟨⟨⟨?_,?_,?_,?_⟩,F⟩,?_⟩<;>simp only<;>omega
theorem bp{w:World}{base}{e}{size}{v}{n}{G}(h:w.ownsRow base e size v n G):∃E D,v= slice E n D:=by
 rcases h.2 with⟨F,rfl⟩|⟨g,D,_,F,_⟩
 ·simp_all
 simp_all
def NF(B b:Nat)(t:ByteArray)(m:Nat):Prop:=∀ w r D cl,Rd w B b t r->Ok t r->cl≠0->t.size+1<=m+r.pos->
 Calls prog 156 #[pointer (some ⟨b,0,none⟩),int i64 D,int .u8 cl] w λx w'=>x=returned (bool (a_ t m D cl r).1)/\Rd w' B b t (a_ t m D cl r).2/\Below B w w'
theorem jg B b t m(Kk:NF B b t m)w r parent(H:Rd w B b t r)(fW:Ok t r)(hp:r.pos<t.size)(hm:t.size<=m+r.pos)(ht:t.size<=240):
 Calls prog 111 #[pointer (some ⟨b,0,none⟩),int i64 parent] w λx w'=>x=returned (bool (bW t (a_ t m) parent r).1)/\Rd w' B b t (bW t (a_ t m) parent r).2/\Below B w w':=by
 have⟨sv,tv,bv,uv,lt,lb,h⟩:=H;have⟨⟨d1,d2,d3,d4⟩,_⟩:=fW;have hn:=ny (t:=t) (r:={r with pos:=r.pos+1}) (af t r.pos) parent ⟨⟨by simp only;omega,by simp only;omega,by simp only;omega,by simp only;omega⟩,by simp only;omega⟩;have ab:r.pos+1<=(bB t (af t r.pos) parent {r with pos:=r.pos+1}).2.pos:=hn.2;obtain⟨ao,Dc,rfl⟩:=bp h.ah;cases I:(bB t (af t r.pos) parent {r with pos:=r.pos+1}).1 with
 |false=>
  rw[show bW t (a_ t m) parent r=(false,(bB t (af t r.pos) parent {r with pos:=r.pos+1}).2)by simp[bW,I]];have I:=ag I;go_in;go_wp2_with fail;refine(bL b t r.pos _ h.cj.text h.cj.pos).mono ?_;rintro x G ⟨rfl,Q,rfl⟩;have J:Kp (λk=>k=b) w (w.drewN Q):=(Kp.refl _ _).drewN _;have D:=h.move J (λ_ _ x=>x) (h.cj.drewN Q);have F:=J.below h.bV (λk x=>h.low (Or.inl x));generalize w.drewN Q=G at J D F⊢;have c1:=D.cj.pos;have c4:=D.cj.c4;have f1:=D.cj.free 1;have Y:=bw D F;go_wp2_with fail;have⟨D,F⟩:=Y;have O:Kp (λk=>k=b) G (G.setCell ⟨b,1,none⟩ (int i64 ((r.pos:Int)+1))):=(Kp.refl _ _).setCell jF _;have R:=D.move O (λ_ _ x=>x) D.cj.step;have B2:=F.trans (O.below D.bV (λk x=>D.low (Or.inl x)));generalize G.setCell ⟨b,1,none⟩ (int i64 ((r.pos:Int)+1))=w2 at O R B2⊢;have E:=l0 B b t w2 (af t r.pos) parent {r with pos:=r.pos+1} ⟨_,_,_,_,_,_,R⟩ ⟨by simp only;omega,by simp only;omega,by simp only;omega,by simp only;omega⟩ ht (by simp only;omega);rw[I]at E;refine bI E ?_;rintro x w3 ⟨rfl,Z,U⟩;have X:=B2.trans U;go_wp2;go_ret;exact⟨rfl,Z,X⟩
 |true=>?_
 cases xP:af t r.pos==40 with
 |true=>
  rw[show bW t (a_ t m) parent r=a_ t m r.ah.length 41 (bB t (af t r.pos) parent {r with pos:=r.pos+1}).2 by simp[bW,I,xP]];have I:=ag I;go_in;go_wp2_with fail;refine(bL b t r.pos _ h.cj.text h.cj.pos).mono ?_;rintro x G ⟨rfl,Q,rfl⟩;have J:Kp (λk=>k=b) w (w.drewN Q):=(Kp.refl _ _).drewN _;have D:=h.move J (λ_ _ x=>x) (h.cj.drewN Q);have F:=J.below h.bV (λk x=>h.low (Or.inl x));generalize w.drewN Q=G at J D F⊢;have c1:=D.cj.pos;have c4:=D.cj.c4;have f1:=D.cj.free 1;have Y:=bw D F;go_wp2_with fail;have⟨D,F⟩:=Y;have O:Kp (λk=>k=b) G (G.setCell ⟨b,1,none⟩ (int i64 ((r.pos:Int)+1))):=(Kp.refl _ _).setCell jF _;have R:=D.move O (λ_ _ x=>x) D.cj.step;have B2:=F.trans (O.below D.bV (λk x=>D.low (Or.inl x)));generalize G.setCell ⟨b,1,none⟩ (int i64 ((r.pos:Int)+1))=w2 at O R B2⊢;have E:=l0 B b t w2 (af t r.pos) parent {r with pos:=r.pos+1} ⟨_,_,_,_,_,_,R⟩ ⟨by simp only;omega,by simp only;omega,by simp only;omega,by simp only;omega⟩ ht (by simp only;omega);rw[I]at E;refine bI E ?_;rintro x w3 ⟨rfl,Z,U⟩;have X:=B2.trans U;go_wp2_with fail;refine(Kk w3 _ _ 41 Z hn.1 aV oQ).mono ?_;rintro x w5 ⟨rfl,R5,B5⟩;go_wp2;go_ret;exact⟨rfl,R5,X.trans B5⟩
 |false=>?_
 cases AB:af t r.pos==91 with
 |true=>
  rw[show bW t (a_ t m) parent r=a_ t m r.ah.length 93 (bB t (af t r.pos) parent {r with pos:=r.pos+1}).2 by simp[bW,I,xP,AB]];have I:=ag I;go_in;go_wp2_with fail;refine(bL b t r.pos _ h.cj.text h.cj.pos).mono ?_;rintro x G ⟨rfl,Q,rfl⟩;have J:Kp (λk=>k=b) w (w.drewN Q):=(Kp.refl _ _).drewN _;have D:=h.move J (λ_ _ x=>x) (h.cj.drewN Q);have F:=J.below h.bV (λk x=>h.low (Or.inl x));generalize w.drewN Q=G at J D F⊢;have c1:=D.cj.pos;have c4:=D.cj.c4;have f1:=D.cj.free 1;have Y:=bw D F;go_wp2_with fail;have⟨D,F⟩:=Y;have O:Kp (λk=>k=b) G (G.setCell ⟨b,1,none⟩ (int i64 ((r.pos:Int)+1))):=(Kp.refl _ _).setCell jF _;have R:=D.move O (λ_ _ x=>x) D.cj.step;have B2:=F.trans (O.below D.bV (λk x=>D.low (Or.inl x)));generalize G.setCell ⟨b,1,none⟩ (int i64 ((r.pos:Int)+1))=w2 at O R B2⊢;have E:=l0 B b t w2 (af t r.pos) parent {r with pos:=r.pos+1} ⟨_,_,_,_,_,_,R⟩ ⟨by simp only;omega,by simp only;omega,by simp only;omega,by simp only;omega⟩ ht (by simp only;omega);rw[I]at E;refine bI E ?_;rintro x w3 ⟨rfl,Z,U⟩;have X:=B2.trans U;go_wp2_with fail;refine(Kk w3 _ _ 93 Z hn.1 aV oQ).mono ?_;rintro x w5 ⟨rfl,R5,B5⟩;go_wp2;go_ret;exact⟨rfl,R5,X.trans B5⟩
 |false=>?_
 cases La:af t r.pos==60 with
 |true=>
  rw[show bW t (a_ t m) parent r=(af t (bB t (af t r.pos) parent {r with pos:=r.pos+1}).2.pos==62,{(bB t (af t r.pos) parent {r with pos:=r.pos+1}).2 with pos:=dI (af t (bB t (af t r.pos) parent {r with pos:=r.pos+1}).2.pos==62) (bB t (af t r.pos) parent {r with pos:=r.pos+1}).2.pos})by simp[bW,I,xP,AB,La]];have I:=ag I;go_in;go_wp2_with fail;refine(bL b t r.pos _ h.cj.text h.cj.pos).mono ?_;rintro x G ⟨rfl,Q,rfl⟩;have J:Kp (λk=>k=b) w (w.drewN Q):=(Kp.refl _ _).drewN _;have D:=h.move J (λ_ _ x=>x) (h.cj.drewN Q);have F:=J.below h.bV (λk x=>h.low (Or.inl x));generalize w.drewN Q=G at J D F⊢;have c1:=D.cj.pos;have c4:=D.cj.c4;have f1:=D.cj.free 1;have Y:=bw D F;go_wp2_with fail;have⟨D,F⟩:=Y;have O:Kp (λk=>k=b) G (G.setCell ⟨b,1,none⟩ (int i64 ((r.pos:Int)+1))):=(Kp.refl _ _).setCell jF _;have R:=D.move O (λ_ _ x=>x) D.cj.step;have B2:=F.trans (O.below D.bV (λk x=>D.low (Or.inl x)));generalize G.setCell ⟨b,1,none⟩ (int i64 ((r.pos:Int)+1))=w2 at O R B2⊢;have E:=l0 B b t w2 (af t r.pos) parent {r with pos:=r.pos+1} ⟨_,_,_,_,_,_,R⟩ ⟨by simp only;omega,by simp only;omega,by simp only;omega,by simp only;omega⟩ ht (by simp only;omega);rw[I]at E;refine bI E ?_;rintro x w3 ⟨rfl,Z,U⟩;have X:=B2.trans U;have⟨sv3,tv3,bv3,uv3,lt3,lb3,F3⟩:=Z;have aa:=hn.1.2;go_wp21;refine(s8 b t (bB t (af t r.pos) parent {r with pos:=r.pos+1}).2.pos (int i64 0) (int i64 0) sv3 tv3 bv3 uv3 w3 62 F3.cj oQ).mono ?_;rintro x w5 ⟨rfl,R5,K5⟩;have F5:=F3.move K5 (λ_ _ x=>x) R5;have B5:=X.trans (K5.below F3.bV (λk x=>F3.low (Or.inl x)));go_wp2;go_ret;exact⟨rfl,⟨_,_,_,_,_,_,F5⟩,B5⟩
 |false=>?_
 rw[show bW t (a_ t m) parent r=(true,(bB t (af t r.pos) parent {r with pos:=r.pos+1}).2)by simp[bW,I,xP,AB,La]];have I:=ag I;go_in;go_wp;refine(bL b t r.pos _ h.cj.text h.cj.pos).mono ?_;rintro x G ⟨rfl,Q,rfl⟩;have J:Kp (λk=>k=b) w (w.drewN Q):=(Kp.refl _ _).drewN _;have D:=h.move J (λ_ _ x=>x) (h.cj.drewN Q);have F:=J.below h.bV (λk x=>h.low (Or.inl x));generalize w.drewN Q=G at J D F⊢;have c1:=D.cj.pos;have c4:=D.cj.c4;have f1:=D.cj.free 1;have Y:=bw D F;go_wp21;have⟨D,F⟩:=Y;have O:Kp (λk=>k=b) G (G.setCell ⟨b,1,none⟩ (int i64 ((r.pos:Int)+1))):=(Kp.refl _ _).setCell jF _;have R:=D.move O (λ_ _ x=>x) D.cj.step;have B2:=F.trans (O.below D.bV (λk x=>D.low (Or.inl x)));generalize G.setCell ⟨b,1,none⟩ (int i64 ((r.pos:Int)+1))=w2 at O R B2⊢;have E:=l0 B b t w2 (af t r.pos) parent {r with pos:=r.pos+1} ⟨_,_,_,_,_,_,R⟩ ⟨by simp only;omega,by simp only;omega,by simp only;omega,by simp only;omega⟩ ht (by simp only;omega);rw[I]at E;refine bI E ?_;rintro x w3 ⟨rfl,Z,U⟩;have X:=B2.trans U;exact OH Z X
theorem wh B b t(ht:t.size<=240)m:NF B b t m:=by
 induction m using Nat.strongRecOn with
 |_ m ih=>
 intro w r D cl H fW ad hm;go_in;go_wp;go_loopg [] m (λk wr=>∃F,Hid (a_ t m D cl r=a_ t k D cl F)/\Ok t F/\(t.size+1<=k+F.pos/\k<=m)/\Rd wr B b t F/\Below B w wr)
 case atStart=>exact⟨r,ag rfl,fW,⟨hm,aC _⟩,H,Below.refl _ _⟩
 case round=>
  have⟨F,HE,ho1,⟨hk,hkm⟩,⟨sv,tv,bv,uv,lt,lb,h1⟩,B1⟩:=hrel;have aj:=ho1.2;obtain⟨k,rfl⟩:∃k,gk=k+1:=⟨gk-1,oQ⟩
  cases Y:af t F.pos==40 with
  |true=>
   have J:=eo (c:=40) aV Y;have hs:=kj (λa c s hc hs=>lk k a c s hc hs) D J ho1;cases Q:(bW t (a_ t k) D F).1 with
   |false=>
    go_wp;refine b9 (bL b t F.pos _ h1.cj.text h1.cj.pos) ?_;rintro w1 ⟨I,rfl⟩;have G:Kp (λk=>k=b) wr (wr.drewN I):=(Kp.refl _ _).drewN _;have O:=h1.move G (λ_ _ x=>x) (h1.cj.drewN I);have B2:=B1.trans (G.below h1.bV (λk x=>h1.low (Or.inl x)));generalize wr.drewN I=R at G O B2⊢;go_wp21;have E:=jg B b t k (ih k oQ) R F D ⟨_,_,_,_,_,_,O⟩ ho1 J oQ ht;rw[Q]at E;refine bI E ?_;rintro x w3 ⟨rfl,X,U⟩;go_wp2;go_ret;rw[(ag (HE.trans (show a_ t (k+1) D cl F=(false,(bW t (a_ t k) D F).2)by simp[a_,et,Y,Q])))];exact⟨rfl,X,B2.trans U⟩
   |true=>?_
   have HF:=ag (HE.trans (show a_ t (k+1) D cl F=a_ t k D cl (bW t (a_ t k) D F).2 by simp[a_,et,Y,Q]));go_wp;refine b9 (bL b t F.pos _ h1.cj.text h1.cj.pos) ?_;rintro w1 ⟨I,rfl⟩;have G:Kp (λk=>k=b) wr (wr.drewN I):=(Kp.refl _ _).drewN _;have O:=h1.move G (λ_ _ x=>x) (h1.cj.drewN I);have B2:=B1.trans (G.below h1.bV (λk x=>h1.low (Or.inl x)));generalize wr.drewN I=R at G O B2⊢;go_wp21;have E:=jg B b t k (ih k oQ) R F D ⟨_,_,_,_,_,_,O⟩ ho1 J oQ ht;rw[Q]at E;refine bI E ?_;rintro x w3 ⟨rfl,X,U⟩;have B4:=B2.trans U;go_wp2;go_roundg k
   case measure=>omega
   case rel=>exact⟨_,HF,hs.1,oQ,X,B4⟩
  |false=>?_
  cases Z:af t F.pos==91 with
  |true=>
   have J:=eo (c:=91) aV Z;have hs:=kj (λa c s hc hs=>lk k a c s hc hs) D J ho1;cases Q:(bW t (a_ t k) D F).1 with
   |false=>
    go_wp;refine b9 (bL b t F.pos _ h1.cj.text h1.cj.pos) ?_;rintro w1 ⟨I,rfl⟩;have G:Kp (λk=>k=b) wr (wr.drewN I):=(Kp.refl _ _).drewN _;have O:=h1.move G (λ_ _ x=>x) (h1.cj.drewN I);have B2:=B1.trans (G.below h1.bV (λk x=>h1.low (Or.inl x)));generalize wr.drewN I=R at G O B2⊢;go_wp21;have E:=jg B b t k (ih k oQ) R F D ⟨_,_,_,_,_,_,O⟩ ho1 J oQ ht;rw[Q]at E;refine bI E ?_;rintro x w3 ⟨rfl,X,U⟩;go_wp2;go_ret;rw[(ag (HE.trans (show a_ t (k+1) D cl F=(false,(bW t (a_ t k) D F).2)by simp[a_,et,Y,Z,Q])))];exact⟨rfl,X,B2.trans U⟩
   |true=>?_
   have HF:=ag (HE.trans (show a_ t (k+1) D cl F=a_ t k D cl (bW t (a_ t k) D F).2 by simp[a_,et,Y,Z,Q]));go_wp;refine b9 (bL b t F.pos _ h1.cj.text h1.cj.pos) ?_;rintro w1 ⟨I,rfl⟩;have G:Kp (λk=>k=b) wr (wr.drewN I):=(Kp.refl _ _).drewN _;have O:=h1.move G (λ_ _ x=>x) (h1.cj.drewN I);have B2:=B1.trans (G.below h1.bV (λk x=>h1.low (Or.inl x)));generalize wr.drewN I=R at G O B2⊢;go_wp21;have E:=jg B b t k (ih k oQ) R F D ⟨_,_,_,_,_,_,O⟩ ho1 J oQ ht;rw[Q]at E;refine bI E ?_;rintro x w3 ⟨rfl,X,U⟩;have B4:=B2.trans U;go_wp2;go_roundg k
   case measure=>omega
   case rel=>exact⟨_,HF,hs.1,oQ,X,B4⟩
  |false=>?_
  cases La:af t F.pos==60 with
  |true=>
   have J:=eo (c:=60) aV La;have hs:=kj (λa c s hc hs=>lk k a c s hc hs) D J ho1;cases Q:(bW t (a_ t k) D F).1 with
   |false=>
    go_wp;refine b9 (bL b t F.pos _ h1.cj.text h1.cj.pos) ?_;rintro w1 ⟨I,rfl⟩;have G:Kp (λk=>k=b) wr (wr.drewN I):=(Kp.refl _ _).drewN _;have O:=h1.move G (λ_ _ x=>x) (h1.cj.drewN I);have B2:=B1.trans (G.below h1.bV (λk x=>h1.low (Or.inl x)));generalize wr.drewN I=R at G O B2⊢;go_wp21;have E:=jg B b t k (ih k oQ) R F D ⟨_,_,_,_,_,_,O⟩ ho1 J oQ ht;rw[Q]at E;refine bI E ?_;rintro x w3 ⟨rfl,X,U⟩;go_wp2;go_ret;rw[(ag (HE.trans (show a_ t (k+1) D cl F=(false,(bW t (a_ t k) D F).2)by simp[a_,et,Y,Z,La,Q])))];exact⟨rfl,X,B2.trans U⟩
   |true=>?_
   have HF:=ag (HE.trans (show a_ t (k+1) D cl F=a_ t k D cl (bW t (a_ t k) D F).2 by simp[a_,et,Y,Z,La,Q]));go_wp;refine b9 (bL b t F.pos _ h1.cj.text h1.cj.pos) ?_;rintro w1 ⟨I,rfl⟩;have G:Kp (λk=>k=b) wr (wr.drewN I):=(Kp.refl _ _).drewN _;have O:=h1.move G (λ_ _ x=>x) (h1.cj.drewN I);have B2:=B1.trans (G.below h1.bV (λk x=>h1.low (Or.inl x)));generalize wr.drewN I=R at G O B2⊢;go_wp21;have E:=jg B b t k (ih k oQ) R F D ⟨_,_,_,_,_,_,O⟩ ho1 J oQ ht;rw[Q]at E;refine bI E ?_;rintro x w3 ⟨rfl,X,U⟩;have B4:=B2.trans U;go_wp2;go_roundg k
   case measure=>omega
   case rel=>exact⟨_,HF,hs.1,oQ,X,B4⟩
  |false=>?_
  cases Vk:af t F.pos==42 with
  |true=>
   have J:=eo (c:=42) aV Vk;have hs:=kj (λa c s hc hs=>lk k a c s hc hs) D J ho1;cases Q:(bW t (a_ t k) D F).1 with
   |false=>
    go_wp;refine b9 (bL b t F.pos _ h1.cj.text h1.cj.pos) ?_;rintro w1 ⟨I,rfl⟩;have G:Kp (λk=>k=b) wr (wr.drewN I):=(Kp.refl _ _).drewN _;have O:=h1.move G (λ_ _ x=>x) (h1.cj.drewN I);have B2:=B1.trans (G.below h1.bV (λk x=>h1.low (Or.inl x)));generalize wr.drewN I=R at G O B2⊢;go_wp21;have E:=jg B b t k (ih k oQ) R F D ⟨_,_,_,_,_,_,O⟩ ho1 J oQ ht;rw[Q]at E;refine bI E ?_;rintro x w3 ⟨rfl,X,U⟩;go_wp2;go_ret;rw[(ag (HE.trans (show a_ t (k+1) D cl F=(false,(bW t (a_ t k) D F).2)by simp[a_,et,Y,Z,La,Vk,Q])))];exact⟨rfl,X,B2.trans U⟩
   |true=>?_
   have HF:=ag (HE.trans (show a_ t (k+1) D cl F=a_ t k D cl (bW t (a_ t k) D F).2 by simp[a_,et,Y,Z,La,Vk,Q]));go_wp;refine b9 (bL b t F.pos _ h1.cj.text h1.cj.pos) ?_;rintro w1 ⟨I,rfl⟩;have G:Kp (λk=>k=b) wr (wr.drewN I):=(Kp.refl _ _).drewN _;have O:=h1.move G (λ_ _ x=>x) (h1.cj.drewN I);have B2:=B1.trans (G.below h1.bV (λk x=>h1.low (Or.inl x)));generalize wr.drewN I=R at G O B2⊢;go_wp21;have E:=jg B b t k (ih k oQ) R F D ⟨_,_,_,_,_,_,O⟩ ho1 J oQ ht;rw[Q]at E;refine bI E ?_;rintro x w3 ⟨rfl,X,U⟩;have B4:=B2.trans U;go_wp2;go_roundg k
   case measure=>omega
   case rel=>exact⟨_,HF,hs.1,oQ,X,B4⟩
  |false=>?_
  cases RI:af t F.pos==58 with
  |true=>
   have J:=eo (c:=58) aV RI;have hs:=ki D J ho1;cases Q:(transition t D F).1 with
   |false=>
    go_wp;refine b9 (bL b t F.pos _ h1.cj.text h1.cj.pos) ?_;rintro w1 ⟨I,rfl⟩;have G:Kp (λk=>k=b) wr (wr.drewN I):=(Kp.refl _ _).drewN _;have O:=h1.move G (λ_ _ x=>x) (h1.cj.drewN I);have B2:=B1.trans (G.below h1.bV (λk x=>h1.low (Or.inl x)));generalize wr.drewN I=R at G O B2⊢;go_wp21;have E:=vo B b t R D F ⟨_,_,_,_,_,_,O⟩ ho1.1 J ht;rw[Q]at E;refine bI E ?_;rintro x w3 ⟨rfl,X,U⟩;go_wp2;go_ret;rw[(ag (HE.trans (show a_ t (k+1) D cl F=(false,(transition t D F).2)by simp[a_,et,Y,Z,La,Vk,RI,Q])))];exact⟨rfl,X,B2.trans U⟩
   |true=>?_
   have HF:=ag (HE.trans (show a_ t (k+1) D cl F=a_ t k D cl (transition t D F).2 by simp[a_,et,Y,Z,La,Vk,RI,Q]));go_wp;refine b9 (bL b t F.pos _ h1.cj.text h1.cj.pos) ?_;rintro w1 ⟨I,rfl⟩;have G:Kp (λk=>k=b) wr (wr.drewN I):=(Kp.refl _ _).drewN _;have O:=h1.move G (λ_ _ x=>x) (h1.cj.drewN I);have B2:=B1.trans (G.below h1.bV (λk x=>h1.low (Or.inl x)));generalize wr.drewN I=R at G O B2⊢;go_wp21;have E:=vo B b t R D F ⟨_,_,_,_,_,_,O⟩ ho1.1 J ht;rw[Q]at E;refine bI E ?_;rintro x w3 ⟨rfl,X,U⟩;have B4:=B2.trans U;go_wp2;go_roundg k
   case measure=>omega
   case rel=>exact⟨_,HF,hs.1,oQ,X,B4⟩
  |false=>?_
  cases aa:af t F.pos==94 with
  |true=>
   have J:=eo (c:=94) aV aa;have hs:=s9 D J ho1;cases Q:(Ch.block t D F).1 with
   |false=>
    go_wp;refine b9 (bL b t F.pos _ h1.cj.text h1.cj.pos) ?_;rintro w1 ⟨I,rfl⟩;have G:Kp (λk=>k=b) wr (wr.drewN I):=(Kp.refl _ _).drewN _;have O:=h1.move G (λ_ _ x=>x) (h1.cj.drewN I);have B2:=B1.trans (G.below h1.bV (λk x=>h1.low (Or.inl x)));generalize wr.drewN I=R at G O B2⊢;go_wp21;have E:=wg B b t R D F ⟨_,_,_,_,_,_,O⟩ ho1.1 J ht;rw[Q]at E;refine bI E ?_;rintro x w3 ⟨rfl,X,U⟩;go_wp2;go_ret;rw[(ag (HE.trans (show a_ t (k+1) D cl F=(false,(Ch.block t D F).2)by simp[a_,et,Y,Z,La,Vk,RI,aa,Q])))];exact⟨rfl,X,B2.trans U⟩
   |true=>?_
   have HF:=ag (HE.trans (show a_ t (k+1) D cl F=a_ t k D cl (Ch.block t D F).2 by simp[a_,et,Y,Z,La,Vk,RI,aa,Q]));go_wp;refine b9 (bL b t F.pos _ h1.cj.text h1.cj.pos) ?_;rintro w1 ⟨I,rfl⟩;have G:Kp (λk=>k=b) wr (wr.drewN I):=(Kp.refl _ _).drewN _;have O:=h1.move G (λ_ _ x=>x) (h1.cj.drewN I);have B2:=B1.trans (G.below h1.bV (λk x=>h1.low (Or.inl x)));generalize wr.drewN I=R at G O B2⊢;go_wp21;have E:=wg B b t R D F ⟨_,_,_,_,_,_,O⟩ ho1.1 J ht;rw[Q]at E;refine bI E ?_;rintro x w3 ⟨rfl,X,U⟩;have B4:=B2.trans U;go_wp2;go_roundg k
   case measure=>omega
   case rel=>exact⟨_,HF,hs.1,oQ,X,B4⟩
  |false=>?_
  cases ab:af t F.pos==36 with
  |true=>
   have J:=eo (c:=36) aV ab;have hs:=s9 D J ho1;cases Q:(Ch.block t D F).1 with
   |false=>
    go_wp;refine b9 (bL b t F.pos _ h1.cj.text h1.cj.pos) ?_;rintro w1 ⟨I,rfl⟩;have G:Kp (λk=>k=b) wr (wr.drewN I):=(Kp.refl _ _).drewN _;have O:=h1.move G (λ_ _ x=>x) (h1.cj.drewN I);have B2:=B1.trans (G.below h1.bV (λk x=>h1.low (Or.inl x)));generalize wr.drewN I=R at G O B2⊢;go_wp21;have E:=wg B b t R D F ⟨_,_,_,_,_,_,O⟩ ho1.1 J ht;rw[Q]at E;refine bI E ?_;rintro x w3 ⟨rfl,X,U⟩;go_wp2;go_ret;rw[(ag (HE.trans (show a_ t (k+1) D cl F=(false,(Ch.block t D F).2)by simp[a_,et,Y,Z,La,Vk,RI,aa,ab,Q])))];exact⟨rfl,X,B2.trans U⟩
   |true=>?_
   have HF:=ag (HE.trans (show a_ t (k+1) D cl F=a_ t k D cl (Ch.block t D F).2 by simp[a_,et,Y,Z,La,Vk,RI,aa,ab,Q]));go_wp;refine b9 (bL b t F.pos _ h1.cj.text h1.cj.pos) ?_;rintro w1 ⟨I,rfl⟩;have G:Kp (λk=>k=b) wr (wr.drewN I):=(Kp.refl _ _).drewN _;have O:=h1.move G (λ_ _ x=>x) (h1.cj.drewN I);have B2:=B1.trans (G.below h1.bV (λk x=>h1.low (Or.inl x)));generalize wr.drewN I=R at G O B2⊢;go_wp21;have E:=wg B b t R D F ⟨_,_,_,_,_,_,O⟩ ho1.1 J ht;rw[Q]at E;refine bI E ?_;rintro x w3 ⟨rfl,X,U⟩;have B4:=B2.trans U;go_wp2;go_roundg k
   case measure=>omega
   case rel=>exact⟨_,HF,hs.1,oQ,X,B4⟩
  |false=>?_
  go_wp;refine b9 (bL b t F.pos _ h1.cj.text h1.cj.pos) ?_;rintro w1 ⟨I,rfl⟩;have G:Kp (λk=>k=b) wr (wr.drewN I):=(Kp.refl _ _).drewN _;have O:=h1.move G (λ_ _ x=>x) (h1.cj.drewN I);have B2:=B1.trans (G.below h1.bV (λk x=>h1.low (Or.inl x)));generalize wr.drewN I=R at G O B2⊢;go_wp21;refine(s8 b t F.pos (int i64 0) (int i64 0) sv tv bv uv R cl O.cj (by have:=ho1.2;omega)).mono ?_;rintro x w5 ⟨rfl,R5,K5⟩;go_wp2;go_ret;rw[(ag (HE.trans (show a_ t (k+1) D cl F=(af t F.pos==cl,{F with pos:=dI (af t F.pos==cl) F.pos})by simp[a_,et,Y,Z,La,Vk,RI,aa,ab])))];exact⟨rfl,⟨_,_,_,_,_,_,O.move K5 (λ_ _ x=>x) R5⟩,B2.trans (K5.below O.bV (λk x=>O.low (Or.inl x)))⟩
namespace Ch
def uX(ss:List St)(i:Int):Option St:=match i with| .ofNat k=>ss[k]? | .negSucc _=>none
theorem iR ss(k:Nat):uX ss (k:Int)=ss[k]?:=rfl
theorem lq{ss i s}(h:uX ss i=some s):∃k:Nat,i=k/\ss[k]? =some s/\k<ss.length:=by
 cases i with
 |ofNat k=>exact⟨k,rfl,h,by have:=(aM.1 (show ss[k]? =some s from h)).1;exact this⟩
 |negSucc k=>grind[uX]
theorem za{ss i}(h:uX ss i=none):i<0\/(0<=i/\(ss.length:Int)<=i):=by
 cases i with
 |ofNat k=>right;have:ss[k]? =_:=h;simp_all
 |negSucc k=>omega
def bn(ss:List St)(i:Int):Int:=match uX ss i with|some s=>s.kind|none=>2
def aW(ss:List St)(i:Int):Int:=match uX ss i with|some s=>s.parent|none=>-1
def bq(ss:List St)(i parent:Int):Bool:=match uX ss i with|some s=>s.parent==parent&&s.kind !=5|none=>false
def sy(c:Int):List St->Nat->Int
 | [],_=>-2
 |s::l,k=>if s.name==c then k else sy c l (k+1)
def place(ss:List St)(c:Int):Int:=sy c ss 0
def gx(ss:List St)(parent:Int):Nat->Nat->Int
 |0,_=>-2
 |f+1,k=>if bq ss k parent then k else gx ss parent f (k+1)
def fj(ss:List St)(parent:Int):Int:=gx ss parent ss.length 0
def oR(ss:List St)(i:Int):Bool:=match uX ss i with
 |some s=>if s.kind==5||s.kind==4 then bn ss s.parent==3 else if s.kind==3||s.kind==2 then fj ss i== -2 else false
 |none=>false
def iB(p:Nat->St->Bool):List St->Nat->Int
 | [],_=>-2
 |s::l,k=>if p k s then s.pos else iB p l (k+1)
def jX(ss:List St):Int:=iB (λk s=>decide (place ss s.name<(k:Int))) ss 0
def nA(ss:List St):Int:=iB (λk _=>oR ss k) ss 0
def fD(ss:List St):List Us->Int
 | []=>-2
 |u::l=>if place ss u.name== -2 then u.pos else fD ss l
end Ch
def rN(w:World)(D E:Nat)(ss:List St):Prop:=∃sv base,w.cell? ⟨D,E+2,none⟩=some sv/\w.ownsRow base 155 4 sv ss.length (gU ss)
theorem rN.at_{w E F ss}(h:rN w E F ss){k}{s}(hs:ss[k]? =some s):
 ∃g D,w.cell? ⟨E,F+2,none⟩=some (slice (some ⟨g,0,none⟩) ss.length D)/\w.cell? ⟨g,k*4,none⟩=some (int .u8 s.name)/\w.cell? ⟨g,k*4+1,none⟩=some (int i64 s.pos)/\
  w.cell? ⟨g,k*4+2,none⟩=some (int i64 s.kind)/\w.cell? ⟨g,k*4+3,none⟩=some (int i64 s.parent):=by
 have⟨sv,base,hc,ho⟩:=h;have hk:=(aM.1 hs).1;obtain⟨g,D,rfl⟩:=jn ho oQ;have⟨a0,a1,a2,a3⟩:=Bt ss k s hs;exact⟨g,D,hc,(ho.cellAt (k*4) oQ).trans a0,(ho.cellAt (k*4+1) oQ).trans a1,(ho.cellAt (k*4+2) oQ).trans a2,(ho.cellAt (k*4+3) oQ).trans a3⟩
theorem rN.len{w E F ss}(h:rN w E F ss):∃G D,w.cell? ⟨E,F+2,none⟩=some (slice G ss.length D):=by
 have⟨sv,base,hc,ho⟩:=h;rcases ho.2 with⟨I,J⟩|⟨g,D,_,I,_⟩
 ·simp_all
 simp_all
section
variable (ob oo:Nat) (w:World) (ss:List St)
theorem nB i(h:rN w ob oo ss)(_hl:ss.length<=1000):
 Calls prog 163 #[pointer (some ⟨ob,oo,none⟩),int i64 i] w λx w'=>x=returned (int i64 (bn ss i))/\w'=w:=by
 unfold bn;cases hs:uX ss i with
 |none=>
  have⟨ao,cap,c2⟩:=h.len;rcases za hs with E|⟨I,E⟩
  ·clear hs h;go_in;exact we
  have F:decide (i<0)=false:=il;go_in;exact we
 |some s=>?_
 obtain⟨k,rfl,hk,G⟩:=lq hs;have⟨g,cap,c2,a0,a1,a2,a3⟩:=h.at_ hk;have F:decide ((k:Int)<0)=false:=dy;have D:(k:Int)<ss.length:=oQ;go_in;exact we
theorem k7 i parent(h:rN w ob oo ss)(_hl:ss.length<=1000):
 Calls prog 162 #[pointer (some ⟨ob,oo,none⟩),int i64 i,int i64 parent] w λx w'=>x=returned (bool (bq ss i parent))/\w'=w:=by
 unfold bq;cases hs:uX ss i with
 |none=>
  have⟨ao,cap,c2⟩:=h.len;rcases za hs with G|⟨O,G⟩
  ·clear hs h;go_in;exact we
  have I:decide (i<0)=false:=il;go_in;exact we
 |some s=>?_
 obtain⟨k,rfl,hk,J⟩:=lq hs;have⟨g,cap,c2,a0,a1,a2,a3⟩:=h.at_ hk;have I:decide ((k:Int)<0)=false:=dy;have E:(k:Int)<ss.length:=oQ;cases D:s.parent==parent with
 |false=>
  go_in;go_wp2;go_ret;exact⟨by simp[D],rfl⟩
 |true=>?_
 cases F:s.kind !=5 with
 |false=>
  go_in;go_wp2;go_ret;exact⟨by simp[D,F],rfl⟩
 |true=>?_
 go_in;go_wp2;go_ret;exact⟨by simp[D,F],rfl⟩
theorem oy c(h:rN w ob oo ss)(O:ss.length<=1000):
 Calls prog 158 #[pointer (some ⟨ob,oo,none⟩),int .u8 c] w λx w'=>x=returned (int i64 (Ch.place ss c))/\w'=w:=by
 go_in;go_wp;go_loop [5] (λi=>∃k:Nat,i= int i64 k/\k<=ss.length/\Hid (Ch.place ss c=sy c (ss.drop k) k)) (λi=>ss.length-(intOf i).toNat)
 case atStart=>exact⟨0,rfl,aA _,ag rfl⟩
 case round=>
  obtain⟨k,rfl,hk,F⟩:=hrel;by_cases E:k<ss.length
  ·obtain⟨s,hs⟩:∃s,ss[k]? =some s:=⟨_,au E⟩
   have⟨g,cap,c2,a0,a1,a2,a3⟩:=h.at_ hs;have I:(k:Int)<ss.length:=oQ;have G:ss.drop k=s::ss.drop (k+1):=by
    rw[eR E];congr 1;exact(aM.1 hs).2
   cases q:s.name==c with
   |true=>
    have D:=ag (F.trans (show _=((k:Nat):Int)by rw[G];simp[sy,q]));exact iN D
   |false=>?_
   have D:=ag (F.trans (show _=sy c (ss.drop (k+1)) (k+1)by rw[G];simp[sy,q]));go_wp2;exact⟨⟨k+1,eb,oQ,D⟩,ew⟩
  have⟨ao,cap,c2⟩:=h.len;have D:=ag (F.trans (show _=(-2:Int)by rw[dA oQ];rfl));have J:¬(k:Int)<ss.length:=oQ;exact iN D
theorem qT parent(h:rN w ob oo ss)(O:ss.length<=1000):
 Calls prog 217 #[pointer (some ⟨ob,oo,none⟩),int i64 parent] w λx w'=>x=returned (int i64 (fj ss parent))/\w'=w:=by
 have⟨ao,cap,c2⟩:=h.len;go_in;go_wp;go_loop [5] (λi=>∃k:Nat,i= int i64 k/\k<=ss.length/\Hid (fj ss parent=gx ss parent (ss.length-k) k)) (λi=>ss.length-(intOf i).toNat)
 case atStart=>exact⟨0,rfl,aA _,ag rfl⟩
 case round=>
  obtain⟨k,rfl,hk,F⟩:=hrel;have E:=ag (k7 ob oo w ss k parent h O);by_cases Q:k<ss.length
  ·have I:(k:Int)<ss.length:=oQ;have G:ss.length-k=(ss.length-(k+1))+1:=oQ;cases q:bq ss k parent with
   |true=>
    have D:=ag (F.trans (show _=((k:Nat):Int)by rw[G];simp[gx,q]));rw[q]at E;go_wp;exact cF E (iN D)
   |false=>?_
   have D:=ag (F.trans (show _=gx ss parent (ss.length-(k+1)) (k+1)by rw[G];simp[gx,q]));rw[q]at E;go_wp;refine cF E ?_;go_wp2;exact⟨⟨k+1,eb,oQ,D⟩,ew⟩
  have D:=ag (F.trans (show _=(-2:Int)by rw[show ss.length-k=0 by omega];rfl));have J:¬(k:Int)<ss.length:=oQ;go_wp;go_ret;exact⟨by rw[D];rfl,rfl⟩
theorem ON k(G:k<ss.length)(h:rN w ob oo ss)(Q:ss.length<=1000):
 Calls prog 159 #[pointer (some ⟨ob,oo,none⟩),int i64 k] w λx w'=>x=returned (bool (oR ss k))/\w'=w:=by
 obtain⟨s,hs⟩:∃s,ss[k]? =some s:=⟨_,au G⟩
 have⟨g,cap,c2,a0,a1,a2,a3⟩:=h.at_ hs;have R:(k:Int)<ss.length:=oQ;have D:uX _ (k:Int)=_:=hs;have J:=ag (nB ob oo w ss s.parent h Q);have O:=ag (qT ob oo w ss (k:Int) h Q);cases E:s.kind==5 with
 |true=>
  rw[show oR ss k=(bn ss s.parent==3)by simp[oR,D,E]];go_in;go_wp;exact cF J we
 |false=>?_
 cases F:s.kind==4 with
 |true=>
  rw[show oR ss k=(bn ss s.parent==3)by simp[oR,D,E,F]];go_in;go_wp;exact cF J we
 |false=>?_
 cases I:s.kind==3 with
 |true=>
  rw[show oR ss k=(fj ss k== -2)by simp[oR,D,E,F,I]];go_in;go_wp;exact cF O we
 |false=>?_
 cases U:s.kind==2 with
 |true=>
  rw[show oR ss k=(fj ss k== -2)by simp[oR,D,E,F,I,U]];go_in;go_wp;exact cF O we
 |false=>?_
 rw[show oR ss k=false by simp[oR,D,E,F,I,U]];go_in;exact we
theorem Bv(h:rN w ob oo ss)(Q:ss.length<=1000):
 Calls prog 112 #[pointer (some ⟨ob,oo,none⟩)] w λx w'=>x=returned (int i64 (jX ss))/\w'=w:=by
 go_in;go_wp;go_loop [3] (λi=>∃k:Nat,i= int i64 k/\k<=ss.length/\Hid (jX ss=iB (λk s=>decide (Ch.place ss s.name<(k:Int))) (ss.drop k) k)) (λi=>ss.length-(intOf i).toNat)
 case atStart=>exact⟨0,rfl,aA _,ag rfl⟩
 case round=>
  obtain⟨k,rfl,hk,G⟩:=hrel;by_cases F:k<ss.length
  ·obtain⟨s,hs⟩:∃s,ss[k]? =some s:=⟨_,au F⟩
   have⟨g,cap,c2,a0,a1,a2,a3⟩:=h.at_ hs;have J:(k:Int)<ss.length:=oQ;have I:ss.drop k=s::ss.drop (k+1):=by
    rw[eR F];congr 1;exact(aM.1 hs).2
   have E:=ag (oy ob oo w ss s.name h Q);cases q:decide (Ch.place ss s.name<(k:Int))with
   |true=>
    have D:=ag (G.trans (show _=s.pos by rw[I];simp[iB];intro x;simp at q;omega));go_wp;exact cF E (iN D)
   |false=>?_
   have D:=ag (G.trans (show _=iB (λk s=>decide (Ch.place ss s.name<(k:Int))) (ss.drop (k+1)) (k+1)by rw[I];simp[iB];intro x;simp at q;omega));go_wp;refine cF E ?_;go_wp2;exact⟨⟨k+1,eb,oQ,D⟩,ew⟩
  have⟨ao,cap,c2⟩:=h.len;have D:=ag (G.trans (show _=(-2:Int)by rw[dA oQ];rfl));have O:¬(k:Int)<ss.length:=oQ;go_wp;go_ret;exact⟨by rw[D];rfl,rfl⟩
theorem FD(h:rN w ob oo ss)(Q:ss.length<=1000):
 Calls prog 113 #[pointer (some ⟨ob,oo,none⟩)] w λx w'=>x=returned (int i64 (nA ss))/\w'=w:=by
 go_in;go_wp;go_loop [3] (λi=>∃k:Nat,i= int i64 k/\k<=ss.length/\Hid (nA ss=iB (λk _=>oR ss k) (ss.drop k) k)) (λi=>ss.length-(intOf i).toNat)
 case atStart=>exact⟨0,rfl,aA _,ag rfl⟩
 case round=>
  obtain⟨k,rfl,hk,G⟩:=hrel;by_cases D:k<ss.length
  ·obtain⟨s,hs⟩:∃s,ss[k]? =some s:=⟨_,au D⟩
   have⟨g,cap,c2,a0,a1,a2,a3⟩:=h.at_ hs;have J:(k:Int)<ss.length:=oQ;have I:ss.drop k=s::ss.drop (k+1):=by
    rw[eR D];congr 1;exact(aM.1 hs).2
   have E:=ag (ON ob oo w ss k D h Q);cases q:oR ss k with
   |true=>
    have F:=ag (G.trans (show _=s.pos by rw[I];simp[iB,q]));rw[q]at E;go_wp;exact cF E (iN F)
   |false=>?_
   have F:=ag (G.trans (show _=iB (λk _=>oR ss k) (ss.drop (k+1)) (k+1)by rw[I];simp[iB,q]));rw[q]at E;go_wp;refine cF E ?_;go_wp2;exact⟨⟨k+1,eb,oQ,F⟩,ew⟩
  have⟨ao,cap,c2⟩:=h.len;have F:=ag (G.trans (show _=(-2:Int)by rw[dA oQ];rfl));have O:¬(k:Int)<ss.length:=oQ;go_wp;go_ret;exact⟨by rw[F];rfl,rfl⟩
end
theorem Lb us k u(h:us[k]? =some u):
 (jq us)[k*2]? =some (int .u8 u.name)/\(jq us)[k*2+1]? =some (int i64 u.pos):=by
 induction us generalizing k with
 |nil=>simp_all
 |cons a l D=>?_
 grind[jq]
namespace Ch
def gy(ss:List St)(us:List Us):Int×Int:=
 if 16<ss.length then(3,match ss[16]? with|some s=>s.pos|none=>0)
 else if jX ss != -2 then(4,jX ss)
 else if nA ss != -2 then(5,nA ss)
 else if fD ss us != -2 then(6,fD ss us)
 else(0,0)
end Ch
section
variable (ob oo:Nat) (w:World) (ss:List St)
theorem FE uv us base(G:w.ownsRow base 242 2 uv us.length (jq us))(hu:us.length<=1000)(h:rN w ob oo ss)(U:ss.length<=1000):
 Calls prog 114 #[pointer (some ⟨ob,oo,none⟩),uv] w λx w'=>x=returned (int i64 (fD ss us))/\w'=w:=by
 obtain⟨Z,Q,rfl⟩:=bp G;go_in;go_wp;go_loop [5] (λi=>∃k:Nat,i= int i64 k/\k<=us.length/\Hid (fD ss us=fD ss (us.drop k))) (λi=>us.length-(intOf i).toNat)
 case atStart=>exact⟨0,rfl,aA _,ag rfl⟩
 case round=>
  obtain⟨k,rfl,hk,I⟩:=hrel;by_cases F:k<us.length
  ·obtain⟨u,hs⟩:∃s,us[k]? =some s:=⟨_,au F⟩
   have⟨g,cap',hg⟩:=jn G oQ;simp only[aH,cA]at hg;obtain⟨rfl,rfl⟩:=hg;have⟨z0,z1⟩:=Lb us k u hs;have X:=(G.cellAt (k*2) oQ).trans z0;have Y:=(G.cellAt (k*2+1) oQ).trans z1;have O:(k:Int)<us.length:=oQ;have J:us.drop k=u::us.drop (k+1):=by
    rw[eR F];congr 1;exact(aM.1 hs).2
   have E:=ag (oy ob oo w ss u.name h U);cases q:Ch.place ss u.name== -2 with
   |true=>
    have D:=ag (I.trans (show _=u.pos by rw[J];simp[fD,q]));go_wp;exact cF E (iN D)
   |false=>?_
   have D:=ag (I.trans (show _=fD ss (us.drop (k+1))by rw[J];simp[fD,q]));go_wp;refine cF E ?_;go_wp2;exact⟨⟨k+1,eb,oQ,D⟩,ew⟩
  have D:=ag (I.trans (show _=(-2:Int)by rw[dA oQ];rfl));have R:¬(k:Int)<us.length:=oQ;go_wp;go_ret;exact⟨by rw[D];rfl,rfl⟩
theorem rN.aB{ob oo w w' ss S}(h:rN w ob oo ss)(k:Kp S w w')(E:¬S ob)(F:∀i D,w.heap[i]? =some (cells D 155 (0,0))->¬S i):rN w' ob oo ss:=by
 have⟨sv,base,hc,ho⟩:=h;refine⟨sv,base,?_,k.owns ho (λi hi=>by have⟨D,hg⟩:=bC ho hi;exact F i D hg)⟩;rw[kO (k.block ob (oP w _ hc) E)];omega
theorem rN.alloc{ob oo w ss}(h:rN w ob oo ss)o:rN (w.alloc o) ob oo ss:=
 h.aB (S:=bA) ((Kp.refl _ _).alloc _) (λx=>x) (λ_ _ _ x=>x)
theorem D1 uv us base(ho:w.ownsRow base 242 2 uv us.length (jq us))(hu:us.length<=1000)(h:rN w ob oo ss)(O:ss.length<=1000):
 Calls prog 69 #[pointer (some ⟨ob,oo,none⟩),uv] w λx w'=>x=returned (agg #[int i64 (gy ss us).1,int i64 (gy ss us).2])/\Kp bA w w':=by
 have F:=h.alloc (cells #[int i64 0,int i64 0] 145);have Q:=ho.alloc (cells #[int i64 0,int i64 0] 145);by_cases D:16<ss.length
 ·obtain⟨s,hs⟩:∃s,ss[16]? =some s:=⟨_,au D⟩
  have⟨g,cap,c2,a0,a1,a2,a3⟩:=F.at_ hs;simp only[Nat.reduceMul,Nat.reduceAdd]at a0 a1 a2 a3;have zb:(16:Int)<ss.length:=oQ;rw[show gy ss us=(3,s.pos)by unfold gy;rw[aq D,hs]];go_in;go_wp21;exact aJ (v:=agg #[int i64 3,int i64 s.pos]) (by simp[results,Tryz.results69,go_sem]) rfl ⟨rfl,(Kp.refl _ _).alloc _⟩
 have zb:¬(16:Int)<ss.length:=oQ;have⟨ao,cap,c2⟩:=F.len;have I:=ag (Bv ob oo _ ss F O);have J:=ag (FD ob oo _ ss F O);have U:=ag (FE ob oo _ ss uv us base Q hu F O);cases X:jX ss != -2 with
 |true=>
  rw[show gy ss us=(4,jX ss)by unfold gy;rw[ax D,aq X]];go_in;go_wp21;refine cF I ?_;go_wp2;exact aJ (v:=agg #[int i64 4,int i64 (jX ss)]) (by simp[results,Tryz.results69,go_sem]) rfl ⟨rfl,(Kp.refl _ _).alloc _⟩
 |false=>?_
 have E:¬(jX ss != -2)=true:=by simp[X]
 cases Y:nA ss != -2 with
 |true=>
  rw[show gy ss us=(5,nA ss)by unfold gy;rw[ax D,ax E,aq Y]];go_in;go_wp21;refine cF I ?_;go_wp2_with fail;refine cF J ?_;go_wp2;exact aJ (v:=agg #[int i64 5,int i64 (nA ss)]) (by simp[results,Tryz.results69,go_sem]) rfl ⟨rfl,(Kp.refl _ _).alloc _⟩
 |false=>?_
 have G:¬(nA ss != -2)=true:=by simp[Y]
 cases Z:fD ss us != -2 with
 |true=>
  rw[show gy ss us=(6,fD ss us)by unfold gy;rw[ax D,ax E,ax G,aq Z]];go_in;go_wp21;refine cF I ?_;go_wp2_with fail;refine cF J ?_;go_wp2_with fail;refine cF U ?_;go_wp2;exact aJ (v:=agg #[int i64 6,int i64 (fD ss us)]) (by simp[results,Tryz.results69,go_sem]) rfl ⟨rfl,(Kp.refl _ _).alloc _⟩
 |false=>?_
 have R:¬(fD ss us != -2)=true:=by simp[Z]
 rw[show gy ss us=(0,0)by unfold gy;rw[ax D,ax E,ax G,ax R]];go_in;go_wp21;refine cF I ?_;go_wp2_with fail;refine cF J ?_;go_wp2_with fail;refine cF U ?_;go_wp21;exact aJ (v:=agg #[int i64 0,int i64 0]) (by simp[results,Tryz.results69,go_sem]) rfl ⟨rfl,(Kp.refl _ _).alloc _⟩
