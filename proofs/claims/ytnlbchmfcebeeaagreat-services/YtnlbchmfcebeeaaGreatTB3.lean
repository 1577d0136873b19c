import Derived.Test.YtnlbchmfcebeeaaGreatTA6
set_option maxHeartbeats 12800000
set_option maxRecDepth 100000
namespace Go.Proofs.YtnlbchmfcebeeaaGreat
open Go.Proofs.Tryz Ch
open Go.RowKit
open Value(int slice bool pointer string agg tuple)
open IntKind(i64)
open Obj(cells)
open Ending(returned)
open Operand(tmp)
namespace Ch
def r0:Rs:=⟨0,[],[],[],[]⟩
theorem wZ t:Ok t r0:=⟨⟨aC _,aC _,aC _,aC _⟩,aA _⟩
def chart(t:ByteArray):Bool×Rs:=
 if af t 0==40||af t 0==91 then
  if(bW t (a_ t (t.size+1)) (-1) r0).1 then((((bW t (a_ t (t.size+1)) (-1) r0).2.pos:Int)==(t.size:Int)),(bW t (a_ t (t.size+1)) (-1) r0).2)
  else(false,(bW t (a_ t (t.size+1)) (-1) r0).2)
 else(false,r0)
structure Ol where
 ah:List St
 dF:List Tr
 fH:List Bl
def read(t:ByteArray):Int×Int×Ol:=
 if 240<t.size then(1,0,⟨[],[],[]⟩)
 else if(chart t).1 then
  if(gy (chart t).2.ah (chart t).2.dH).1==0 then(0,0,⟨(chart t).2.ah,(chart t).2.dF,(chart t).2.fH⟩)
  else((gy (chart t).2.ah (chart t).2.dH).1,(gy (chart t).2.ah (chart t).2.dH).2,⟨[],[],[]⟩)
 else(2,(chart t).2.pos,⟨[],[],[]⟩)
theorem Hm t:Ok t (chart t).2:=by
 unfold chart;split
 ·rename_i q;have D:0<t.size:=by
   grind[dS]
  grind[kj,lk,r0,wZ]
 grind[wZ]
end Ch
structure Bw(w:World)(B:Nat)(o:Ol)(sv tv bv:Value)(lt:List (Tr×Value))(lb:List (Bl×Value)):Prop where
 ah:w.ownsRow B 155 4 sv o.ah.length (gU o.ah)
 G8:lt.map (·.1)=o.dF
 dF:w.ownsRow B 209 7 tv lt.length (uk lt)
 kZ:∀x∈lt,w.ownsRow B 255 3 x.2 x.1.bM.length (iW x.1.bM)
 Kj:lb.map (·.1)=o.fH
 fH:w.ownsRow B 282 3 bv lb.length (um lb)
 uo:∀x∈lb,w.ownsRow B 255 3 x.2 x.1.bM.length (iW x.1.bM)
theorem OO B b t w(H:Rd w B b t Ch.r0)(U:t.size<=240):
 Calls prog 68 #[pointer (some ⟨b,0,none⟩)] w λx w'=>x=returned (bool (chart t).1)/\Rd w' B b t (chart t).2/\Below B w w':=by
 have⟨sv,tv,bv,uv,lt,lb,h⟩:=H;cases X:af t 0==40 with
 |true=>
  have R:=eo (c:=40) oQ X;have aa:(af t 0 !=40)=false:=cX X;cases G:(bW t (a_ t (t.size+1)) (-1) Ch.r0).1 with
  |false=>
   rw[show chart t=(false,(bW t (a_ t (t.size+1)) (-1) Ch.r0).2)by simp[chart,X,G]];have G:=ag G;go_in;go_wp;refine b9 (bL b t 0 _ h.cj.text h.cj.pos) ?_;rintro O ⟨F,rfl⟩;have D:Kp (λk=>k=b) w (w.drewN F):=(Kp.refl _ _).drewN _;have J:=h.move D (λ_ _ x=>x) (h.cj.drewN F);have I:=D.below h.bV (λk x=>h.low (Or.inl x));generalize w.drewN F=O at D J I⊢;go_wp21;have E:=jg B b t (t.size+1) (wh B b t U _) O Ch.r0 (-1) ⟨_,_,_,_,_,_,J⟩ (wZ t) R (by show t.size<=t.size+1+0;omega) U;rw[G]at E;refine bI E ?_;rintro x Z ⟨rfl,Y,B2⟩;have Q:=I.trans B2;exact OH Y Q
  |true=>?_
  rw[show chart t=((((bW t (a_ t (t.size+1)) (-1) Ch.r0).2.pos:Int)==(t.size:Int)),(bW t (a_ t (t.size+1)) (-1) Ch.r0).2)by simp[chart,X,G]];have G:=ag G;go_in;go_wp;refine b9 (bL b t 0 _ h.cj.text h.cj.pos) ?_;rintro O ⟨F,rfl⟩;have D:Kp (λk=>k=b) w (w.drewN F):=(Kp.refl _ _).drewN _;have J:=h.move D (λ_ _ x=>x) (h.cj.drewN F);have I:=D.below h.bV (λk x=>h.low (Or.inl x));generalize w.drewN F=O at D J I⊢;go_wp21;have E:=jg B b t (t.size+1) (wh B b t U _) O Ch.r0 (-1) ⟨_,_,_,_,_,_,J⟩ (wZ t) R (by show t.size<=t.size+1+0;omega) U;rw[G]at E;refine bI E ?_;rintro x Z ⟨rfl,Y,B2⟩;have Q:=I.trans B2;have⟨sv2,tv2,bv2,uv2,lt2,lb2,F2⟩:=Y;have c0:=F2.cj.text;have c1:=F2.cj.pos;have HH:=bw F2 Q;go_wp2;go_quiet (fail);go_wp2;go_ret;have⟨F2,Q⟩:=HH;have K4:Kp (λk=>k=b) Z (Z.drewN nq):=(Kp.refl _ _).drewN _;exact⟨rfl,⟨_,_,_,_,_,_,F2.move K4 (λ_ _ x=>x) (F2.cj.drewN _)⟩,Q.trans (K4.below F2.bV (λk x=>F2.low (Or.inl x)))⟩
 |false=>?_
 have aa:(af t 0 !=40)=true:=cX X;cases AB:af t 0==91 with
 |true=>
  have R:=eo (c:=91) oQ AB;have ab:(af t 0 !=91)=false:=cX AB;cases G:(bW t (a_ t (t.size+1)) (-1) Ch.r0).1 with
  |false=>
   rw[show chart t=(false,(bW t (a_ t (t.size+1)) (-1) Ch.r0).2)by simp[chart,X,AB,G]];have G:=ag G;go_in;go_wp;refine b9 (bL b t 0 _ h.cj.text h.cj.pos) ?_;rintro O ⟨F,rfl⟩;have D:Kp (λk=>k=b) w (w.drewN F):=(Kp.refl _ _).drewN _;have J:=h.move D (λ_ _ x=>x) (h.cj.drewN F);have I:=D.below h.bV (λk x=>h.low (Or.inl x));generalize w.drewN F=O at D J I⊢;go_wp21;have E:=jg B b t (t.size+1) (wh B b t U _) O Ch.r0 (-1) ⟨_,_,_,_,_,_,J⟩ (wZ t) R (by show t.size<=t.size+1+0;omega) U;rw[G]at E;refine bI E ?_;rintro x Z ⟨rfl,Y,B2⟩;have Q:=I.trans B2;exact OH Y Q
  |true=>?_
  rw[show chart t=((((bW t (a_ t (t.size+1)) (-1) Ch.r0).2.pos:Int)==(t.size:Int)),(bW t (a_ t (t.size+1)) (-1) Ch.r0).2)by simp[chart,X,AB,G]];have G:=ag G;go_in;go_wp;refine b9 (bL b t 0 _ h.cj.text h.cj.pos) ?_;rintro O ⟨F,rfl⟩;have D:Kp (λk=>k=b) w (w.drewN F):=(Kp.refl _ _).drewN _;have J:=h.move D (λ_ _ x=>x) (h.cj.drewN F);have I:=D.below h.bV (λk x=>h.low (Or.inl x));generalize w.drewN F=O at D J I⊢;go_wp21;have E:=jg B b t (t.size+1) (wh B b t U _) O Ch.r0 (-1) ⟨_,_,_,_,_,_,J⟩ (wZ t) R (by show t.size<=t.size+1+0;omega) U;rw[G]at E;refine bI E ?_;rintro x Z ⟨rfl,Y,B2⟩;have Q:=I.trans B2;have⟨sv2,tv2,bv2,uv2,lt2,lb2,F2⟩:=Y;have c0:=F2.cj.text;have c1:=F2.cj.pos;have HH:=bw F2 Q;go_wp2;go_quiet (fail);go_wp2;go_ret;have⟨F2,Q⟩:=HH;have K4:Kp (λk=>k=b) Z (Z.drewN nq):=(Kp.refl _ _).drewN _;exact⟨rfl,⟨_,_,_,_,_,_,F2.move K4 (λ_ _ x=>x) (F2.cj.drewN _)⟩,Q.trans (K4.below F2.bV (λk x=>F2.low (Or.inl x)))⟩
 |false=>?_
 rw[show chart t=(false,Ch.r0)by simp[chart,X,AB]];have ab:(af t 0 !=91)=true:=cX AB;go_in;go_wp;refine b9 (bL b t 0 _ h.cj.text h.cj.pos) ?_;rintro O ⟨F,rfl⟩;have D:Kp (λk=>k=b) w (w.drewN F):=(Kp.refl _ _).drewN _;have J:=h.move D (λ_ _ x=>x) (h.cj.drewN F);have I:=D.below h.bV (λk x=>h.low (Or.inl x));generalize w.drewN F=O at D J I⊢;go_wp2;go_ret;exact⟨rfl,⟨_,_,_,_,_,_,J⟩,I⟩
theorem Bw.nil w B:Bw w B ⟨[],[],[]⟩ (slice none 0 0) (slice none 0 0) (slice none 0 0) [] []:=
 ⟨cd _ _ _ _,rfl,cd _ _ _ _,dy,rfl,cd _ _ _ _,dy⟩
def y8(w:World)(b:Nat)(D E F G I:Value):World:=
 ((((w.setCell ⟨b,0,none⟩ D).setCell ⟨b,1,none⟩ E).setCell ⟨b,2,none⟩ F).setCell ⟨b,3,none⟩ G).setCell ⟨b,4,none⟩ I
theorem ze{w b c0 c1 c2 c3 c4 T}(h:w.heap[b]? =some (cells #[c0,c1,c2,c3,c4] T (0,0)))D E F G I:
 (y8 w b D E F G I).heap[b]? =some (cells #[D,E,F,G,I] T (0,0)):=by
 unfold y8;rw[ar _ (ar _ (ar _ (ar _ (ar _ h))))];rfl
theorem FF w b D E F G I:Kp (λk=>k=b) w (y8 w b D E F G I):=
 ((((((Kp.refl _ _).setCell jF _).setCell jF _).setCell jF _).setCell jF _).setCell jF _)
theorem vp t w:
 Calls prog 42 #[string t] w λx w'=>∃sv tv bv lt lb,x=returned (agg #[int i64 (Ch.read t).1,int i64 (Ch.read t).2.1,sv,tv,bv])/\Bw w' w.heap.size (Ch.read t).2.2 sv tv bv lt lb/\Below w.heap.size w w':=by
 by_cases U:240<t.size
 ·rw[show Ch.read t=(1,0,⟨[],[],[]⟩)by unfold Ch.read;rw[aq U]];have ab:(240:Int)<t.size:=oQ;go_in;go_wp;exact aJ (v:=agg #[int i64 1,int i64 0,slice none 0 0,slice none 0 0,slice none 0 0]) (by simp[results,Tryz.results42,go_sem]) rfl ⟨_,_,_,_,_,rfl,Bw.nil _ _,(Below.refl _ _).alloc (aC _) _⟩
 have ab:¬(240:Int)<t.size:=oQ;have H1:Rd ((w.alloc (cells #[int i64 0,int i64 0,slice none 0 0,slice none 0 0,slice none 0 0] 87)).alloc (cells #[string t,int i64 0,int i64 0,int i64 0,slice none 0 0,slice none 0 0,slice none 0 0,slice none 0 0] 143)) (w.heap.size+1) (w.heap.size+1) t Ch.r0:=by
  refine⟨slice none 0 0,slice none 0 0,slice none 0 0,slice none 0 0,[],[],?_,cd _ _ _ _,rfl,cd _ _ _ _,dy,rfl,cd _ _ _ _,dy,cd _ _ _ _,aC _⟩;have e:=ak (w.alloc (cells #[int i64 0,int i64 0,slice none 0 0,slice none 0 0,slice none 0 0] 87)) (cells #[string t,int i64 0,int i64 0,int i64 0,slice none 0 0,slice none 0 0,slice none 0 0,slice none 0 0] 143);rw[World.size_alloc]at e;exact e
 have aa:((w.alloc (cells #[int i64 0,int i64 0,slice none 0 0,slice none 0 0,slice none 0 0] 87)).alloc (cells #[string t,int i64 0,int i64 0,int i64 0,slice none 0 0,slice none 0 0,slice none 0 0,slice none 0 0] 143)).heap[w.heap.size]? =some (cells #[int i64 0,int i64 0,slice none 0 0,slice none 0 0,slice none 0 0] 87):=by
  rw[cE _ _ _ dy];exact ak _ _
 have B1:Below _ _ ((w.alloc (cells #[int i64 0,int i64 0,slice none 0 0,slice none 0 0,slice none 0 0] 87)).alloc (cells #[string t,int i64 0,int i64 0,int i64 0,slice none 0 0,slice none 0 0,slice none 0 0,slice none 0 0] 143)):=((Below.refl _ _).alloc (aC _) _).alloc dy _;have E:=ag (OO (w.heap.size+1) (w.heap.size+1) t ((w.alloc (cells #[int i64 0,int i64 0,slice none 0 0,slice none 0 0,slice none 0 0] 87)).alloc (cells #[string t,int i64 0,int i64 0,int i64 0,slice none 0 0,slice none 0 0,slice none 0 0,slice none 0 0] 143)) H1 oQ);cases q1:(chart t).1 with
 |false=>
  rw[show Ch.read t=(2,((chart t).2.pos:Int),Ol.mk [] [] [])by unfold Ch.read;rw[ax U];simp[q1]];rw[q1]at E;have HX:=bw aa B1;go_in;go_wp;refine b9 E ?_;rintro X ⟨⟨sv,tv,bv,uv,lt,lb,I⟩,B2⟩;have F:=(B2.block _ oQ).trans HX.1;have J:=HX.2.trans (B2.mono (cT _));have c1:=I.cj.pos;have r0:X.cell? ⟨w.heap.size,0,none⟩=some (int i64 0):=by simp[World.cell?,F]
  have r1:X.cell? ⟨w.heap.size,1,none⟩=some (int i64 0):=by simp[World.cell?,F]
  have r2:X.cell? ⟨w.heap.size,2,none⟩=some (slice none 0 0):=by simp[World.cell?,F]
  have r3:X.cell? ⟨w.heap.size,3,none⟩=some (slice none 0 0):=by simp[World.cell?,F]
  have r4:X.cell? ⟨w.heap.size,4,none⟩=some (slice none 0 0):=by simp[World.cell?,F]
  have fr:∀i,X.frozen? ⟨w.heap.size,i,none⟩=false:=by intro i;simp[World.frozen?,F]
  go_wp2;have⟨F,I,J⟩:=(c_ F I J);have O:=ze F (int i64 2) (int i64 ((chart t).2.pos:Int)) (slice none 0 0) (slice none 0 0) (slice none 0 0);have KW:=FF X w.heap.size (int i64 2) (int i64 ((chart t).2.pos:Int)) (slice none 0 0) (slice none 0 0) (slice none 0 0);change bodyPost _ _ _ _ _ (y8 X w.heap.size (int i64 2) (int i64 ((chart t).2.pos:Int)) (slice none 0 0) (slice none 0 0) (slice none 0 0))
  generalize y8 X w.heap.size (int i64 2) (int i64 ((chart t).2.pos:Int)) (slice none 0 0) (slice none 0 0) (slice none 0 0)=R at O KW⊢;have z0:R.cell? ⟨w.heap.size,0,none⟩=some (int i64 2):=by simp[World.cell?,O]
  have z1:R.cell? ⟨w.heap.size,1,none⟩=some (int i64 ((chart t).2.pos:Int)):=by simp[World.cell?,O]
  have z2:R.cell? ⟨w.heap.size,2,none⟩=some (slice none 0 0):=by simp[World.cell?,O]
  have z3:R.cell? ⟨w.heap.size,3,none⟩=some (slice none 0 0):=by simp[World.cell?,O]
  have z4:R.cell? ⟨w.heap.size,4,none⟩=some (slice none 0 0):=by simp[World.cell?,O]
  refine aJ (v:=agg #[int i64 2,int i64 ((chart t).2.pos:Int),slice none 0 0,slice none 0 0,slice none 0 0]) (by simp[results,Tryz.results42,go_sem,z0,z1,z2,z3,z4]) rfl ?_;exact⟨_,_,_,_,_,rfl,Bw.nil _ _,J.trans (KW.below (by have:=J.size;omega) (λk x=>oQ))⟩
 |true=>?_
 have⟨⟨d1,d2,d3,d4⟩,d5⟩:=Hm t;have HX:=bw aa B1;rw[q1]at E;cases Z:(gy (chart t).2.ah (chart t).2.dH).1==0 with
 |false=>
  rw[show Ch.read t=((gy (chart t).2.ah (chart t).2.dH).1,(gy (chart t).2.ah (chart t).2.dH).2,Ol.mk [] [] [])by unfold Ch.read;rw[ax U];simp[q1,Z]];have Z:=ag Z;go_in;go_wp;refine hm E ?_;rintro x X ⟨rfl,⟨sv,tv,bv,uv,lt,lb,I⟩,B2⟩;have F:=(B2.block _ oQ).trans HX.1;have J:=HX.2.trans (B2.mono (cT _));have c7:=I.cj.c7;go_wp21;have⟨F,I,J⟩:=(c_ F I J);refine bI (D1 (w.heap.size+1) 2 X (chart t).2.ah uv (chart t).2.dH _ I.dH oQ ⟨_,_,I.cj.c4,I.ah⟩ oQ) ?_;rintro x G ⟨rfl,K3⟩;have Y:=K3.at_ F (λx=>x);have Q:=I.move K3 gM (I.cj.aB K3 (λx=>x));have B4:=J.trans (K3.below (by have:=J.size;omega) (λk x=>x.elim));generalize ad:gy (chart t).2.ah (chart t).2.dH=jj at Z⊢;have⟨je,ja⟩:=jj;have D:∀o,(G.alloc o).heap[w.heap.size]? =some (cells #[int i64 0,int i64 0,slice none 0 0,slice none 0 0,slice none 0 0] 87):=λo=>(cE _ _ _ (aR Y)).trans Y;have r0:∀o,(G.alloc o).cell? ⟨w.heap.size,0,none⟩=some (int i64 0):=by intro o;simp[World.cell?,D]
  have r1:∀o,(G.alloc o).cell? ⟨w.heap.size,1,none⟩=some (int i64 0):=by intro o;simp[World.cell?,D]
  have r2:∀o,(G.alloc o).cell? ⟨w.heap.size,2,none⟩=some (slice none 0 0):=by intro o;simp[World.cell?,D]
  have r3:∀o,(G.alloc o).cell? ⟨w.heap.size,3,none⟩=some (slice none 0 0):=by intro o;simp[World.cell?,D]
  have r4:∀o,(G.alloc o).cell? ⟨w.heap.size,4,none⟩=some (slice none 0 0):=by intro o;simp[World.cell?,D]
  have fr:∀o i,(G.alloc o).frozen? ⟨w.heap.size,i,none⟩=false:=by intro o i;simp[World.frozen?,D]
  have qn:(je !=0)=true:=by have:=Z.out;simpa using this
  go_wp2;have⟨D,Q,B4⟩:=(c_ D Q B4);have J:=B4.alloc (by have:=B4.size;omega) (cells #[int i64 je,int i64 ja] 145);have O:=ze (D (cells #[int i64 je,int i64 ja] 145)) (int i64 je) (int i64 ja) (slice none 0 0) (slice none 0 0) (slice none 0 0);have KW:=FF (G.alloc (cells #[int i64 je,int i64 ja] 145)) w.heap.size (int i64 je) (int i64 ja) (slice none 0 0) (slice none 0 0) (slice none 0 0);change bodyPost _ _ _ _ _ (y8 (G.alloc (cells #[int i64 je,int i64 ja] 145)) w.heap.size (int i64 je) (int i64 ja) (slice none 0 0) (slice none 0 0) (slice none 0 0))
  generalize y8 (G.alloc (cells #[int i64 je,int i64 ja] 145)) w.heap.size (int i64 je) (int i64 ja) (slice none 0 0) (slice none 0 0) (slice none 0 0)=R at O KW⊢;have z0:R.cell? ⟨w.heap.size,0,none⟩=some (int i64 je):=by simp[World.cell?,O]
  have z1:R.cell? ⟨w.heap.size,1,none⟩=some (int i64 ja):=by simp[World.cell?,O]
  have z2:R.cell? ⟨w.heap.size,2,none⟩=some (slice none 0 0):=by simp[World.cell?,O]
  have z3:R.cell? ⟨w.heap.size,3,none⟩=some (slice none 0 0):=by simp[World.cell?,O]
  have z4:R.cell? ⟨w.heap.size,4,none⟩=some (slice none 0 0):=by simp[World.cell?,O]
  refine aJ (v:=agg #[int i64 je,int i64 ja,slice none 0 0,slice none 0 0,slice none 0 0]) (by simp[results,Tryz.results42,go_sem,z0,z1,z2,z3,z4]) rfl ?_;rw[(ag ad)];exact⟨_,_,_,_,_,rfl,Bw.nil _ _,J.trans (KW.below (by have:=J.size;omega) (λk x=>oQ))⟩
 |true=>?_
 rw[show Ch.read t=(0,0,Ol.mk (chart t).2.ah (chart t).2.dF (chart t).2.fH)by unfold Ch.read;rw[ax U];simp[q1,Z]];have Z:=ag Z;go_in;go_wp;refine hm E ?_;rintro x X ⟨rfl,⟨sv,tv,bv,uv,lt,lb,I⟩,B2⟩;have F:=(B2.block _ oQ).trans HX.1;have J:=HX.2.trans (B2.mono (cT _));have c7:=I.cj.c7;go_wp21;have⟨F,I,J⟩:=(c_ F I J);refine bI (D1 (w.heap.size+1) 2 X (chart t).2.ah uv (chart t).2.dH _ I.dH oQ ⟨_,_,I.cj.c4,I.ah⟩ oQ) ?_;rintro x G ⟨rfl,K3⟩;have Y:=K3.at_ F (λx=>x);have Q:=I.move K3 gM (I.cj.aB K3 (λx=>x));have B4:=J.trans (K3.below (by have:=J.size;omega) (λk x=>x.elim));generalize gy (chart t).2.ah (chart t).2.dH=jj at Z⊢;have⟨je,ja⟩:=jj;have D:∀o,(G.alloc o).heap[w.heap.size]? =some (cells #[int i64 0,int i64 0,slice none 0 0,slice none 0 0,slice none 0 0] 87):=λo=>(cE _ _ _ (aR Y)).trans Y;have r0:∀o,(G.alloc o).cell? ⟨w.heap.size,0,none⟩=some (int i64 0):=by intro o;simp[World.cell?,D]
 have r1:∀o,(G.alloc o).cell? ⟨w.heap.size,1,none⟩=some (int i64 0):=by intro o;simp[World.cell?,D]
 have r2:∀o,(G.alloc o).cell? ⟨w.heap.size,2,none⟩=some (slice none 0 0):=by intro o;simp[World.cell?,D]
 have r3:∀o,(G.alloc o).cell? ⟨w.heap.size,3,none⟩=some (slice none 0 0):=by intro o;simp[World.cell?,D]
 have r4:∀o,(G.alloc o).cell? ⟨w.heap.size,4,none⟩=some (slice none 0 0):=by intro o;simp[World.cell?,D]
 have fr:∀o i,(G.alloc o).frozen? ⟨w.heap.size,i,none⟩=false:=by intro o i;simp[World.frozen?,D]
 have qn:(je !=0)=false:=by have:=Z.out;simpa using this
 obtain⟨sa,sb,sc,rfl⟩:=gu Q.ah;obtain⟨ta,tb,tc,rfl⟩:=gu Q.dF;obtain⟨ba,bb,bc,rfl⟩:=gu Q.fH;have m2:=λo=>(Q.cj.alloc o).c2;have m3:=λo=>(Q.cj.alloc o).c3;have m4:=λo=>(Q.cj.alloc o).c4;have m5:=λo=>(Q.cj.alloc o).c5;have m6:=λo=>(Q.cj.alloc o).c6;go_wp2;have⟨D,Q,B4⟩:=(c_ D Q B4);have J:=B4.alloc (by have:=B4.size;omega) (cells #[int i64 je,int i64 ja] 145);have O:=ze (D (cells #[int i64 je,int i64 ja] 145)) (int i64 0) (int i64 0) (slice sa sb sc) (slice ta tb tc) (slice ba bb bc);have KW:=FF (G.alloc (cells #[int i64 je,int i64 ja] 145)) w.heap.size (int i64 0) (int i64 0) (slice sa sb sc) (slice ta tb tc) (slice ba bb bc);change bodyPost _ _ _ _ _ (y8 (G.alloc (cells #[int i64 je,int i64 ja] 145)) w.heap.size (int i64 0) (int i64 0) (slice sa sb sc) (slice ta tb tc) (slice ba bb bc))
 generalize y8 (G.alloc (cells #[int i64 je,int i64 ja] 145)) w.heap.size (int i64 0) (int i64 0) (slice sa sb sc) (slice ta tb tc) (slice ba bb bc)=R at O KW⊢;have z0:R.cell? ⟨w.heap.size,0,none⟩=some (int i64 0):=by simp[World.cell?,O]
 have z1:R.cell? ⟨w.heap.size,1,none⟩=some (int i64 0):=by simp[World.cell?,O]
 have z2:R.cell? ⟨w.heap.size,2,none⟩=some (slice sa sb sc):=by simp[World.cell?,O]
 have z3:R.cell? ⟨w.heap.size,3,none⟩=some (slice ta tb tc):=by simp[World.cell?,O]
 have z4:R.cell? ⟨w.heap.size,4,none⟩=some (slice ba bb bc):=by simp[World.cell?,O]
 refine aJ (v:=agg #[int i64 0,int i64 0,slice sa sb sc,slice ta tb tc,slice ba bb bc]) (by simp[results,Tryz.results42,go_sem,z0,z1,z2,z3,z4]) rfl ?_;have hS:∀{base e size v n xs},G.ownsRow base e size v n xs->w.heap.size+1<=base->∀i,v.ownBlock=some i->¬i=w.heap.size:=by
  intro base e size v n xs ho hb i hi he;have:=(ho.lt i hi).1;omega
 have ok:∀{e size v n xs},G.ownsRow (w.heap.size+1) e size v n xs->R.ownsRow w.heap.size e size v n xs:=λho=>cH ((((Kp.refl _ _).alloc (cells #[int i64 je,int i64 ja] 145)).trans KW).owns ho (hS ho (aC _))) (cT _);exact⟨_,_,_,lt,lb,rfl,⟨ok Q.ah,Q.G8,ok Q.dF,λx hx=>ok (Q.kZ x hx),Q.Kj,ok Q.fH,λx hx=>ok (Q.uo x hx)⟩,J.trans (KW.below (by have:=J.size;omega) (λk x=>oQ))⟩
theorem xo:(prog.info? 87).map (·.size)=some 5:=bZ
theorem Kp.setRow{S a w}(h:Kp S a w){g}(E:g<a.heap.size->S g)D:Kp S a (w.setRow g D):=
 h.trans' (S':=λk=>k=g) ⟨rfl,rfl,rfl,dy,λk _ hn=>cN _ _ _ _ hn⟩ (λi hi e=>by subst e;exact E hi)
theorem s_{w w'}(b:Below w.heap.size w w'):Kp bA w w':=⟨b.os,b.tape,b.output,b.size,λk hk _=>b.block k hk⟩
def wj(e f:Int)(sv tv bv:Value):Array Value:=#[int i64 e,int i64 f,sv,tv,bv]
theorem Hn{e f sv tv bv}(E:sv.oneCell'=true)(F:tv.oneCell'=true)(G:bv.oneCell'=true):(wj e f sv tv bv).all (λx=>x.oneCell')=true:=by
 apply gH.2;intro x D;simp only[wj,kP,dB,gJ,gK]at D;rcases D with rfl|rfl|rfl|rfl|rfl<;>first|rfl|assumption
theorem gC{w:World}{base}{e}{size}{v}{n}{D}(h:w.ownsRow base e size v n D):v.oneCell'=true:=by
 obtain⟨a,m,c,rfl⟩:=gu h;rfl
theorem Lc w t:
 Calls prog 47 #[string t] w λx w'=>x=returned (tuple #[int i64 (Ch.read t).1,int i64 (Ch.read t).2.1])/\Kp bA w w':=by
 have R:=ag (vp t w);go_in;go_wp;refine hm R ?_;rintro x D ⟨sv,tv,bv,lt,lb,rfl,G,B2⟩;have I:=s_ B2;have Q:=Hn (e:=(Ch.read t).1) (f:=(Ch.read t).2.1) (gC G.ah) (gC G.dF) (gC G.fH);have E:=ak D (cells Dp 87);have F:=an (D.alloc (cells Dp 87)) D.heap.size _ (wj (Ch.read t).1 (Ch.read t).2.1 sv tv bv) 87 (0,0) E;have U:Kp bA w ((D.alloc (cells Dp 87)).setRow D.heap.size (wj (Ch.read t).1 (Ch.read t).2.1 sv tv bv)):=(I.alloc _).setRow (λx=>by have:=I.size;omega) _;go_upto_region 2 with(refine wpList_store_row rfl 87 (tmp 4) (tmp 6) rfl D.heap.size (wj (Ch.read t).1 (Ch.read t).2.1 sv tv bv) rfl rfl 87 Dp E xo rfl Q ?_);generalize (D.alloc (cells Dp 87)).setRow D.heap.size (wj (Ch.read t).1 (Ch.read t).2.1 sv tv bv)=O at*;generalize D.heap.size=J at*;have X:O.cell? ⟨J,0,none⟩=some (int i64 (Ch.read t).1):=dG F rfl;have Y:O.cell? ⟨J,1,none⟩=some (int i64 (Ch.read t).2.1):=dG F rfl;go_quiet (fail);go_wp2;go_ret2;exact⟨rfl,U.drewN _⟩
theorem kG w o:Kp (λ_=>False) w (w.alloc o):=(Kp.refl _ _).alloc _
theorem rQ w o v:Kp (λ_=>False) w ((w.alloc o).setRow w.heap.size v):=((Kp.refl _ _).alloc _).setRow (λx=>by omega) _
theorem iS E F w ss i(h:rN w E F ss)(_hl:ss.length<=1000):
 Calls prog 161 #[pointer (some ⟨E,F,none⟩),int i64 i] w λx w'=>x=returned (int i64 (aW ss i))/\w'=w:=by
 unfold aW;cases hs:uX ss i with
 |none=>
  have⟨ao,cap,c2⟩:=h.len;rcases za hs with G|⟨O,G⟩
  ·clear hs h;go_in;exact we
  have I:decide (i<0)=false:=il;go_in;exact we
 |some s=>?_
 obtain⟨k,rfl,hk,J⟩:=lq hs;have⟨g,cap,c2,a0,a1,a2,a3⟩:=h.at_ hk;have I:decide ((k:Int)<0)=false:=dy;have D:(k:Int)<ss.length:=oQ;go_in;exact we
namespace Ch
def bit(l:List Bool)(k:Nat):Bool:=l.getD k false
def has(l:List Bool)(i:Int):Bool:=match i with| .ofNat k=>bit l k| .negSucc _=>false
def tf(l:List Bool)(i:Int)(v:Bool):List Bool:=match i with| .ofNat k=>l.set k v| .negSucc _=>l
def join(l m:List Bool):List Bool:=(List.range 16).map λk=>bit l k||bit m k
def meets(l m:List Bool):Bool:=(List.range 16).any λk=>bit l k&&bit m k
theorem eQ l(k:Nat):has l (k:Int)=bit l k:=rfl
theorem FG{l k}(h:l.length<=k):bit l k=false:=by simp[bit,List.getElem?_eq_none h]
theorem NG{l}(D:l.length=16){i}(h:i<0\/16<=i):has l i=false:=by
 cases i with
 |ofNat k=>exact FG (by simp at h;omega)
 |negSucc k=>rfl
theorem x7{l}(D:l.length=16){i}v(h:i<0\/16<=i):tf l i v=l:=by
 cases i with
 |ofNat k=>exact List.set_eq_of_length_le (by simp at h;omega)
 |negSucc k=>rfl
theorem nD l i v:(tf l i v).length=l.length:=by
 cases i with
 |ofNat k=>grind[tf]
 |negSucc k=>rfl
end Ch
def lE(w:World)(b:Nat)(pre:List Value)(l:List Bool)(D:List Value)(T:TypeId):Prop:=
 w.heap[b]? =some (cells (pre++l.map Value.bool++D).toArray T (0,0))
section
variable {w:World} {b:Nat} {pre:List Value} {l:List Bool} {post:List Value} {T:TypeId}
theorem lE.cell(h:lE w b pre l post T)(D:l.length=16){k}(hk:k<16):w.cell? ⟨b,pre.length+k,none⟩=some (bool (Ch.bit l k)):=by
 unfold lE at h;have e:(pre++l.map Value.bool++post)[pre.length+k]? =some (bool (Ch.bit l k)):=by
  grind[Ch.bit]
 simp only[World.cell?,h];simp_all
theorem lE.free(h:lE w b pre l post T)i:w.frozen? ⟨b,i,none⟩=false:=by unfold lE at h;simp[World.frozen?,h]
theorem lE.set(h:lE w b pre l post T)(D:l.length=16){k}(hk:k<16)v:lE (w.setCell ⟨b,pre.length+k,none⟩ (bool v)) b pre (l.set k v) post T:=by
 unfold lE at*;rw[ar _ h];simp_all
theorem lE.aB{S w'}(h:lE w b pre l post T)(k:Kp S w w')(hs:¬S b):lE w' b pre l post T:=Kp.at_ k h hs
theorem lE.lt(h:lE w b pre l post T):b<w.heap.size:=aR h
end
section
variable (w:World) (b o:Nat) (pre:List Value) (l:List Bool) (post:List Value) (T:TypeId)
theorem lu i(h:lE w b pre l post T)(E:l.length=16)(G:pre.length=o):
 Calls prog 73 #[pointer (some ⟨b,o,none⟩),int i64 i] w λx w'=>x=returned (bool (Ch.has l i))/\w'=w:=by
 subst G;by_cases I:0<=i
 ·obtain⟨k,rfl⟩:∃k:Nat,i=(k:Int):=⟨i.toNat,oQ⟩
  by_cases F:k<16
  ·have c:=h.cell E F;have D:(k:Int)<16:=oQ;rw[eQ];go_in;exact we
  have D:decide ((k:Int)<16)=false:=il;rw[NG E (Or.inr oQ)];go_in;exact we
 have J:decide (0<=i)=false:=il;rw[NG E (Or.inl oQ)];go_in;exact we
theorem FH i(h:lE w b pre l post T)(D:l.length=16)(G:pre.length=o):
 Calls prog 166 #[pointer (some ⟨b,o,none⟩),int i64 i] w λx w'=>x=returned (tuple #[])/\lE w' b pre (tf l i true) post T/\Kp (λk=>k=b) w w':=by
 subst G;by_cases I:0<=i
 ·obtain⟨k,rfl⟩:∃k:Nat,i=(k:Int):=⟨i.toNat,oQ⟩
  by_cases F:k<16
  ·have c:=h.cell D F;have f:=h.free (pre.length+k);have E:(k:Int)<16:=oQ;have H:=ag h;go_in;go_wp2;go_end0
   exact⟨rfl,H.set D F true,(Kp.refl _ _).setCell jF _⟩
  have E:decide ((k:Int)<16)=false:=il;rw[x7 D _ (Or.inr oQ)];have H:=ag h;go_in;go_wp2;go_end0
  exact⟨rfl,H,Kp.refl _ _⟩
 have J:decide (0<=i)=false:=il;rw[x7 D _ (Or.inl oQ)];have H:=ag h;go_in;go_wp2;go_end0
 exact⟨rfl,H,Kp.refl _ _⟩
theorem Sb i(h:lE w b pre l post T)(D:l.length=16)(G:pre.length=o):
 Calls prog 181 #[pointer (some ⟨b,o,none⟩),int i64 i] w λx w'=>x=returned (tuple #[])/\lE w' b pre (tf l i false) post T/\Kp (λk=>k=b) w w':=by
 subst G;by_cases I:0<=i
 ·obtain⟨k,rfl⟩:∃k:Nat,i=(k:Int):=⟨i.toNat,oQ⟩
  by_cases F:k<16
  ·have c:=h.cell D F;have f:=h.free (pre.length+k);have E:(k:Int)<16:=oQ;have H:=ag h;go_in;go_wp2;go_end0
   exact⟨rfl,H.set D F false,(Kp.refl _ _).setCell jF _⟩
  have E:decide ((k:Int)<16)=false:=il;rw[x7 D _ (Or.inr oQ)];have H:=ag h;go_in;go_wp2;go_end0
  exact⟨rfl,H,Kp.refl _ _⟩
 have J:decide (0<=i)=false:=il;rw[x7 D _ (Or.inl oQ)];have H:=ag h;go_in;go_wp2;go_end0
 exact⟨rfl,H,Kp.refl _ _⟩
theorem Ch.Bx l m k:((List.range (k+1)).any λj=>Ch.bit l j&&Ch.bit m j)=(((List.range k).any λj=>Ch.bit l j&&Ch.bit m j)||(Ch.bit l k&&Ch.bit m k)):=by
 grind
theorem Ch.OP l m k(hk:k<16)(h:(Ch.bit l k&&Ch.bit m k)=true):Ch.meets l m=true:=by
 grind[Ch.meets]
theorem zl U Z E D I T'(h:lE w b pre l post T)(hl:l.length=16)(ho:pre.length=o)(h':lE w U E D I T')(Q:D.length=16)(R:E.length=Z):
 Calls prog 177 #[pointer (some ⟨b,o,none⟩),pointer (some ⟨U,Z,none⟩)] w λx w'=>x=returned (bool (Ch.meets l D))/\w'=w:=by
 subst ho R;go_in;go_wp;go_loop [5] (λi=>∃k:Nat,i= int i64 k/\k<=16/\Hid (((List.range k).any λj=>Ch.bit l j&&Ch.bit D j)=false)) (λi=>16-(intOf i).toNat)
 case atStart=>exact⟨0,rfl,aA _,ag rfl⟩
 case round=>
  obtain⟨k,rfl,hk,O⟩:=hrel;by_cases G:k<16
  ·have c:=h.cell hl G;have X:=h'.cell Q G;have Y:(k:Int)<16:=oQ;cases q:Ch.bit l k with
   |false=>
    have F:=ag (show((List.range (k+1)).any λj=>Ch.bit l j&&Ch.bit D j)=false by rw[Bx,O,q];rfl);rw[q]at c;go_wp2;exact⟨⟨k+1,eb,oQ,F⟩,ew⟩
   |true=>?_
   rw[q]at c;cases J:Ch.bit D k with
   |false=>
    have F:=ag (show((List.range (k+1)).any λj=>Ch.bit l j&&Ch.bit D j)=false by rw[Bx,O,q,J];rfl);rw[J]at X;go_wp2;exact⟨⟨k+1,eb,oQ,F⟩,ew⟩
   |true=>?_
   have F:=ag (OP l D k G (by rw[q,J];rfl));rw[J]at X;exact iN F
  have hd:¬(k:Int)<16:=oQ;obtain rfl:k=16:=oQ;have F:=ag (show Ch.meets l D=false from O);exact iN F
end
namespace Ch
def pM(l m:List Bool)(k:Nat):List Bool:=(List.range 16).map λj=>if j<k then bit l j||bit m j else bit l j
theorem zm l m k:(pM l m k).length=16:=by simp[pM]
theorem Ld{l}m(D:l.length=16):pM l m 0=l:=by
 apply f_;grind[pM,bit]
theorem OQ l m:pM l m 16=join l m:=by
 unfold pM join;simp_all
theorem OR{l m k}(hk:k<16):bit (pM l m k) k=bit l k:=by simp[pM,bit,hk]
theorem By{l m k}(hk:k<16):pM l m (k+1)=(pM l m k).set k (bit l k||bit m k):=by
 apply f_;grind[pM,zm]
theorem x8 l m:(join l m).length=16:=by simp[join]
end Ch
theorem Sc w b o pre l E T U o' G F J T'(h:lE w b pre l E T)(hl:l.length=16)(ho:pre.length=o)(h':lE w U G F J T')(X:F.length=16)(Y:G.length=o')(hb:U≠b):
 Calls prog 179 #[pointer (some ⟨b,o,none⟩),pointer (some ⟨U,o',none⟩)] w λx w'=>x=returned (tuple #[])/\lE w' b pre (Ch.join l F) E T/\Kp (λk=>k=b) w w':=by
 subst ho Y;go_in;go_wp;go_loopw [4] (λi wr=>∃k:Nat,i= int i64 k/\k<=16/\lE wr b pre (pM l F k) E T/\Kp (λk=>k=b) w wr) (λi _=>16-(intOf i).toNat)
 case atStart=>exact⟨0,rfl,aA _,by rw[Ld _ hl];exact h,Kp.refl _ _⟩
 case round=>
  obtain⟨k,rfl,hk,I,Q⟩:=hrel;by_cases D:k<16
  ·have c:=I.cell (zm _ _ _) D;rw[OR D]at c;have f:=I.free (pre.length+k);have c':=(h'.aB Q hb).cell X D;have Z:(k:Int)<16:=oQ;have hs:=λv=>I.set (zm _ _ _) D v;have O:=bw hs Q;cases q:Ch.bit l k with
   |true=>
    rw[q]at c;have R:=ag (show pM l F (k+1)=(pM l F k).set k true by rw[By D,q];rfl);go_wp2;go_region
    all_goals
     go_wp2;exact⟨⟨k+1,eb,oQ,by rw[R];exact O.1 true,(O.2.drew).setCell jF _⟩,ew⟩
   |false=>?_
   rw[q]at c;have R:=ag (show pM l F (k+1)=(pM l F k).set k (Ch.bit F k)by rw[By D,q];rfl);go_wp2;go_region
   all_goals
    go_wp2;exact⟨⟨k+1,eb,oQ,by rw[R];exact O.1 _,(O.2.drew).setCell jF _⟩,ew⟩
  have hd:¬(k:Int)<16:=oQ;obtain rfl:k=16:=oQ;have O:=bw I Q;go_wp2;go_end0
  have⟨I,Q⟩:=O;rw[OQ]at I;exact⟨rfl,I,Q⟩
namespace Ch
structure Sd where
 act:List Bool
 b_:List Int
 tm:ByteArray
 x:Int
 y:Int
 z:Int
def Sd.Wf(s:Sd):Prop:=s.act.length=16/\s.b_.length=16
def mj(n:Int):Bool:=decide (-99<=n)&&decide (n<=99)
def var(s:Sd)(c:Int):Int:=if c==120 then s.x else if c==121 then s.y else s.z
def jb(s:Sd)(c n:Int):Sd:=if c==120 then {s with x:=n}else if c==121 then {s with y:=n}else {s with z:=n}
end Ch
def bP(l:List Int):List Value:=l.map (Value.int .u8)
def dK(s:Sd):List Value:=bP s.b_++[string s.tm,int i64 s.x,int i64 s.y,int i64 s.z]
def fq(w:World)(b:Nat)(pre:List Value)(s:Sd)(D:List Value)(T:TypeId):Prop:=lE w b pre s.act (dK s++D) T
section
variable {w:World} {b:Nat} {pre:List Value} {s:Sd} {post:List Value} {T:TypeId}
theorem fq.at_(h:fq w b pre s post T)(hw:s.Wf)k:w.cell? ⟨b,pre.length+(16+k),none⟩=(dK s++post)[k]?:=by
 unfold fq lE at h;simp only[World.cell?,h];simp only[Option.isSome_none,bu,bf,gX];rw[iy (by simp[hw.1])];congr 1;simp[hw.1];omega
theorem fq.Le(h:fq w b pre s post T)(hw:s.Wf)k v:lE (w.setCell ⟨b,pre.length+(16+k),none⟩ v) b pre s.act ((dK s++post).set k v) T:=by
 unfold fq lE at*;rw[ar _ h];congr 2;simp only[List.setIfInBounds_toArray];rw[nW _ _ (by simp[hw.1])];rw[show pre.length+(16+k)-(pre++List.map Value.bool s.act).length=k by simp[hw.1];omega]
theorem fq.free(h:fq w b pre s post T)i:w.frozen? ⟨b,i,none⟩=false:=lE.free h i
theorem fq.aB{S w'}(h:fq w b pre s post T)(k:Kp S w w')(hs:¬S b):fq w' b pre s post T:=Kp.at_ k h hs
theorem fq.lt(h:fq w b pre s post T):b<w.heap.size:=aR h
theorem k8(hw:s.Wf):(bP s.b_).length=16:=by simp[bP,hw.2]
theorem fq.tm(h:fq w b pre s post T)(hw:s.Wf):w.cell? ⟨b,pre.length+32,none⟩=some (string s.tm):=by
 rw[show pre.length+32=pre.length+(16+16)by omega,h.at_ hw 16,dK,jL,iy (by simp[k8 hw])];grind[k8]
theorem fq.cx(h:fq w b pre s post T)(hw:s.Wf):w.cell? ⟨b,pre.length+33,none⟩=some (int i64 s.x):=by
 rw[show pre.length+33=pre.length+(16+17)by omega,h.at_ hw 17,dK,jL,iy (by simp[k8 hw])];grind[k8]
theorem fq.cy(h:fq w b pre s post T)(hw:s.Wf):w.cell? ⟨b,pre.length+34,none⟩=some (int i64 s.y):=by
 rw[show pre.length+34=pre.length+(16+18)by omega,h.at_ hw 18,dK,jL,iy (by simp[k8 hw])];grind[k8]
theorem fq.cz(h:fq w b pre s post T)(hw:s.Wf):w.cell? ⟨b,pre.length+35,none⟩=some (int i64 s.z):=by
 rw[show pre.length+35=pre.length+(16+19)by omega,h.at_ hw 19,dK,jL,iy (by simp[k8 hw])];grind[k8]
theorem fq.b_(h:fq w b pre s post T)(hw:s.Wf){k}(hk:k<16):w.cell? ⟨b,pre.length+16+k,none⟩=some (int .u8 (s.b_.getD k 0)):=by
 rw[show pre.length+16+k=pre.length+(16+k)by omega,h.at_ hw k,dK,jL,mx (by simp[k8 hw,hk])];simp[bP,show k<s.b_.length by rw[hw.2];exact hk]
theorem FI(hw:s.Wf)j v:(dK s++post).set (16+j) v=bP s.b_++([Value.string s.tm,Value.int i64 s.x,Value.int i64 s.y,Value.int i64 s.z]++post).set j v:=by
 grind[dK,k8]
theorem fq.NH(h:fq w b pre s post T)(hw:s.Wf)v:fq (w.setCell ⟨b,pre.length+32,none⟩ (string v)) b pre {s with tm:=v} post T:=by
 have:=h.Le hw 16 (string v);grind[FI,fq,dK]
theorem fq.Se(h:fq w b pre s post T)(hw:s.Wf)v:fq (w.setCell ⟨b,pre.length+33,none⟩ (int i64 v)) b pre {s with x:=v} post T:=by
 have:=h.Le hw 17 (int i64 v);grind[FI,fq,dK]
theorem fq.Sf(h:fq w b pre s post T)(hw:s.Wf)v:fq (w.setCell ⟨b,pre.length+34,none⟩ (int i64 v)) b pre {s with y:=v} post T:=by
 have:=h.Le hw 18 (int i64 v);grind[FI,fq,dK]
theorem fq.Sg(h:fq w b pre s post T)(hw:s.Wf)v:fq (w.setCell ⟨b,pre.length+35,none⟩ (int i64 v)) b pre {s with z:=v} post T:=by
 have:=h.Le hw 19 (int i64 v);grind[FI,fq,dK]
theorem fq.VI(h:fq w b pre s post T)(hw:s.Wf){k}(hk:k<16)v:fq (w.setCell ⟨b,pre.length+16+k,none⟩ (int .u8 v)) b pre {s with b_:=s.b_.set k v} post T:=by
 have:=h.Le hw k (int .u8 v);rw[dK,jL,List.set_append_left _ _ (by simp[k8 hw,hk])]at this;rw[show pre.length+16+k=pre.length+(16+k)by omega];simp_all[fq,dK,bP]
end
theorem jY w n:
 Calls prog 128 #[int i64 n] w λx w'=>x=returned (bool (mj n))/\w'=w:=by
 by_cases D: -99<=n
 ·by_cases E:n<=99
  ·have H:Hid (mj n=true):=by simp[Hid,mj,D,E]
   go_in;exact iN H
  have H:Hid (mj n=false):=by simp[Hid,mj,E]
  go_in;exact iN H
 have H:Hid (mj n=false):=by simp[Hid,mj,D]
 go_in;exact iN H
theorem uq w b o pre s D T c(h:fq w b pre s D T)(hw:s.Wf)(G:pre.length=o):
 Calls prog 257 #[pointer (some ⟨b,o,none⟩),int .u8 c] w λx w'=>x=returned (int i64 (Ch.var s c))/\w'=w:=by
 subst G;have c1:=h.cx hw;have c2:=h.cy hw;have c3:=h.cz hw;cases E:c==120 with
 |true=>
  have H:=ag (show Ch.var s c=s.x by simp[Ch.var,E]);go_in;exact iN H
 |false=>?_
 cases F:c==121 with
 |true=>
  have H:=ag (show Ch.var s c=s.y by simp[Ch.var,E,F]);go_in;exact iN H
 |false=>?_
 have H:=ag (show Ch.var s c=s.z by simp[Ch.var,E,F]);go_in;exact iN H
theorem py w b o pre s D T c n(h:fq w b pre s D T)(hw:s.Wf)(O:pre.length=o):
 Calls prog 258 #[pointer (some ⟨b,o,none⟩),int .u8 c,int i64 n] w λx w'=>x=returned (bool (mj n))/\fq w' b pre (if mj n then jb s c n else s) D T/\Kp (λk=>k=b) w w':=by
 subst O;have c1:=h.cx hw;have c2:=h.cy hw;have c3:=h.cz hw;have f1:=λi=>h.free i;have F:=ag h;cases G:mj n with
 |false=>
  have E:=jY w n;rw[G]at E;go_in;go_wp;refine cF E ?_;exact iN F
 |true=>?_
 cases I:c==120 with
 |true=>
  have H:=ag (show jb s c n={s with x:=n}by simp[jb,I]);have E:=jY w n;rw[G]at E;go_in;go_wp;refine cF E ?_;go_wp2;go_ret;rw[H];exact⟨rfl,F.Se hw n,(Kp.refl _ _).setCell jF _⟩
 |false=>?_
 cases J:c==121 with
 |true=>
  have H:=ag (show jb s c n={s with y:=n}by simp[jb,I,J]);have E:=jY w n;rw[G]at E;go_in;go_wp;refine cF E ?_;go_wp2;go_ret;rw[H];exact⟨rfl,F.Sf hw n,(Kp.refl _ _).setCell jF _⟩
 |false=>?_
 have H:=ag (show jb s c n={s with z:=n}by simp[jb,I,J]);have E:=jY w n;rw[G]at E;go_in;go_wp;refine cF E ?_;go_wp2;go_ret;rw[H];exact⟨rfl,F.Sg hw n,(Kp.refl _ _).setCell jF _⟩
namespace Ch
def wS(ss:List St)(l:List Bool)(parent:Int)(D:Bool)(j:Nat):Bool:=(has l j==D)&&bq ss j parent
def th(ss:List St)(l:List Bool)(parent:Int)(D:Bool)(k:Nat):Nat:=(List.range k).countP (wS ss l parent D)
def ij(ss:List St)(l:List Bool)(parent:Int)(D:Bool):Nat:=th ss l parent D ss.length
theorem OS ss l parent D k:th ss l parent D (k+1)=th ss l parent D k+if wS ss l parent D k then 1 else 0:=by
 unfold th;rw[lT,List.countP_append];simp[List.countP_cons]
theorem VJ ss l parent D k:th ss l parent D k<=k:=by
 have:=sU (p:=wS ss l parent D) (l:=List.range k);simpa[th]using this
def fits(ss:List St)(l:List Bool)(i:Int):Bool:=
 if has l i then
  if(aW ss i != -1)&& !has l (aW ss i)then false
  else if bn ss i==2 then((ij ss l i true:Nat):Int)==1
  else if bn ss i==3 then((ij ss l i false:Nat):Int)==0
  else if bn ss i==5 then false
  else true
 else aW ss i != -1
def jz(ss:List St)(i name:Int):Bool:=if name==45 then true else bq ss (place ss name) (aW ss i)
def nE(ss:List St)(l:List Bool)(parent:Int):Nat->Nat->Int
 |0,_=>-2
 |f+1,k=>if has l k&&bq ss k parent then k else nE ss l parent f (k+1)
def uM(ss:List St)(l:List Bool)(parent:Int):Int:=nE ss l parent ss.length 0
def cf(s:Sd)(k:Nat):Int:=s.b_.getD k 0
def l5(ss:List St)(s:Sd)(target:Int):Int:=
 if decide (target<0)||decide (16<=target)||bn ss target !=5 then target
 else if cf s target.toNat==45 then fj ss (aW ss target)
 else place ss (cf s target.toNat)
end Ch
theorem rU Q R w ss b o pre l E T parent D(U:rN w Q R ss)(hl:ss.length<=1000)(h:lE w b pre l E T)(O:l.length=16)(ho:pre.length=o):
 Calls prog 220 #[pointer (some ⟨Q,R,none⟩),int i64 parent,pointer (some ⟨b,o,none⟩),bool D] w λx w'=>x=returned (int i64 ((ij ss l parent D:Nat):Int))/\w'=w:=by
 have⟨ao,cap,c2⟩:=U.len;go_in;go_wp;go_loop [9,10] (λn i=>∃k:Nat,i= int i64 k/\k<=ss.length/\n= int i64 ((th ss l parent D k:Nat):Int)) (λ_ i=>ss.length-(intOf i).toNat)
 case atStart=>exact⟨0,rfl,aA _,rfl⟩
 case round=>
  obtain⟨k,rfl,hk,rfl⟩:=hrel;have aa:=VJ ss l parent D k;by_cases ab:k<ss.length
  ·have X:(k:Int)<ss.length:=oQ;have hs:=OS ss l parent D k;have J:=ag (lu w b o pre l E T k h O ho);have G:=ag (k7 Q R w ss k parent U hl);cases Y:Ch.has l (k:Int)==D with
   |false=>
    have F:=ag (show th ss l parent D (k+1)=th ss l parent D k by rw[hs];simp[wS,Y]);go_wp;refine cF J ?_;go_wp2;exact⟨⟨k+1,eb,oQ,by rw[F]⟩,ew⟩
   |true=>?_
   cases I:bq ss k parent with
   |false=>
    have F:=ag (show th ss l parent D (k+1)=th ss l parent D k by rw[hs];simp[wS,I]);rw[I]at G;go_wp;refine cF J ?_;go_wp21;refine cF G ?_;go_wp2;exact⟨⟨k+1,eb,oQ,by rw[F]⟩,ew⟩
   |true=>?_
   have F:=ag (show th ss l parent D (k+1)=th ss l parent D k+1 by rw[hs];simp[wS,Y,I]);rw[I]at G;go_wp;refine cF J ?_;go_wp21;refine cF G ?_;go_wp2;exact⟨⟨k+1,eb,oQ,by rw[F];go_num⟩,ew⟩
  have Z:¬(k:Int)<ss.length:=oQ;obtain rfl:k=ss.length:=oQ;go_wp;go_ret;exact⟨rfl,rfl⟩
theorem Lf D E w ss i c(F:rN w D E ss)(G:ss.length<=1000):
 Calls prog 172 #[pointer (some ⟨D,E,none⟩),int i64 i,int .u8 c] w λx w'=>x=returned (bool (jz ss i c))/\w'=w:=by
 cases q:c==45 with
 |true=>
  rw[show jz ss i c=true by simp[jz,q]];go_in;exact we
 |false=>?_
 rw[show jz ss i c=bq ss (Ch.place ss c) (aW ss i)by simp[jz,q]];have I:=ag (iS D E w ss i F G);have J:=ag (oy D E w ss c F G);have O:=ag (k7 D E w ss (Ch.place ss c) (aW ss i) F G);go_in;go_wp21;refine cF I ?_;go_wp2_with fail;refine cF J ?_;go_wp21;refine cF O ?_;exact we
theorem AE R U w ss b o pre D T s parent(X:rN w R U ss)(hl:ss.length<=1000)(h:fq w b pre s D T)(hw:s.Wf)(ho:pre.length=o):
 Calls prog 180 #[pointer (some ⟨b,o,none⟩),pointer (some ⟨R,U,none⟩),int i64 parent] w λx w'=>x=returned (int i64 (uM ss s.act parent))/\w'=w:=by
 have⟨ao,cap,c2⟩:=X.len;go_in;go_wp2_with fail;go_loop [7] (λi=>∃k:Nat,i= int i64 k/\k<=ss.length/\Hid (uM ss s.act parent=nE ss s.act parent (ss.length-k) k)) (λi=>ss.length-(intOf i).toNat)
 case atStart=>exact⟨0,rfl,aA _,ag rfl⟩
 case round=>
  obtain⟨k,rfl,hk,I⟩:=hrel;by_cases aa:k<ss.length
  ·have Y:(k:Int)<ss.length:=oQ;have Q:ss.length-k=(ss.length-(k+1))+1:=oQ;have F:=ag (lu w b o pre s.act (dK s++D) T k h hw.1 ho);have G:=ag (k7 R U w ss k parent X hl);cases J:Ch.has s.act (k:Int)with
   |false=>
    have E:=ag (I.trans (show _=nE ss s.act parent (ss.length-(k+1)) (k+1)by rw[Q];simp[nE,J]));rw[J]at F;go_wp2_with fail;refine cF F ?_;go_wp2;go_round
    case rel=>exact⟨k+1,eb,oQ,E⟩
    case measure=>exact ew
   |true=>?_
   rw[J]at F;cases O:bq ss k parent with
   |false=>
    have E:=ag (I.trans (show _=nE ss s.act parent (ss.length-(k+1)) (k+1)by rw[Q];simp[nE,O]));rw[O]at G;go_wp2_with fail;refine cF F ?_;go_wp2_with fail;refine cF G ?_;go_wp2;go_round
    case rel=>exact⟨k+1,eb,oQ,E⟩
    case measure=>exact ew
   |true=>?_
   have E:=ag (I.trans (show _=((k:Nat):Int)by rw[Q];simp[nE,J,O]));rw[O]at G;go_wp2_with fail;refine cF F ?_;go_wp2_with fail;refine cF G ?_;go_wp2;go_ret;exact⟨by rw[E];rfl,rfl⟩
  have E:=ag (I.trans (show _=(-2:Int)by rw[show ss.length-k=0 by omega];rfl));have Z:¬(k:Int)<ss.length:=oQ;go_wp2_with fail;go_ret;exact⟨by rw[E];rfl,rfl⟩
theorem Sh Y Z w ss b o pre l D T i(hS:rN w Y Z ss)(hl:ss.length<=1000)(h:lE w b pre l D T)(I:l.length=16)(ho:pre.length=o):
 Calls prog 171 #[pointer (some ⟨Y,Z,none⟩),pointer (some ⟨b,o,none⟩),int i64 i] w λx w'=>x=returned (bool (Ch.fits ss l i))/\w'=w:=by
 have G:=ag (iS Y Z w ss i hS hl);have E:=ag (lu w b o pre l D T i h I ho);have R:=ag (lu w b o pre l D T (aW ss i) h I ho);have Q:=ag (nB Y Z w ss i hS hl);have EC:=ag (rU Y Z w ss b o pre l D T i true hS hl h I ho);have ED:=ag (rU Y Z w ss b o pre l D T i false hS hl h I ho);cases F:Ch.has l i with
 |false=>
  rw[show Ch.fits ss l i=(aW ss i != -1)by simp[Ch.fits,F]];rw[F]at E;go_in;go_wp2_with fail;refine cF G ?_;go_wp2_with fail;refine cF E ?_;go_wp2;go_ret;exact⟨rfl,rfl⟩
 |true=>?_
 rw[F]at E;cases O:aW ss i != -1 with
 |false=>
  cases J:bn ss i==2 with
  |true=>
   rw[show Ch.fits ss l i=(((ij ss l i true:Nat):Int)==1)by simp[Ch.fits,F,O,J]];go_in;go_wp2_with fail;refine cF G ?_;go_wp2_with fail;refine cF E ?_;go_wp2_with fail;refine cF Q ?_;go_wp2_with fail;refine cF EC ?_;go_wp2;go_ret;exact⟨rfl,rfl⟩
  |false=>?_
  cases U:bn ss i==3 with
  |true=>
   rw[show Ch.fits ss l i=(((ij ss l i false:Nat):Int)==0)by simp[Ch.fits,F,O,J,U]];go_in;go_wp2_with fail;refine cF G ?_;go_wp2_with fail;refine cF E ?_;go_wp2_with fail;refine cF Q ?_;go_wp2_with fail;refine cF ED ?_;go_wp2;go_ret;exact⟨rfl,rfl⟩
  |false=>?_
  cases k5:bn ss i==5 with
  |true=>
   rw[show Ch.fits ss l i=false by simp[Ch.fits,F,O,J,U,k5]];go_in;go_wp2_with fail;refine cF G ?_;go_wp2_with fail;refine cF E ?_;go_wp2_with fail;refine cF Q ?_;go_wp2;go_ret;exact⟨rfl,rfl⟩
  |false=>?_
  rw[show Ch.fits ss l i=true by simp[Ch.fits,F,O,J,U,k5]];go_in;go_wp2_with fail;refine cF G ?_;go_wp2_with fail;refine cF E ?_;go_wp2_with fail;refine cF Q ?_;go_wp2;go_ret;exact⟨rfl,rfl⟩
 |true=>?_
 cases X:Ch.has l (aW ss i)with
 |false=>
  rw[show Ch.fits ss l i=false by simp[Ch.fits,F,O,X]];rw[X]at R;go_in;go_wp2_with fail;refine cF G ?_;go_wp2_with fail;refine cF E ?_;go_wp2_with fail;refine cF R ?_;go_wp2;go_ret;exact⟨rfl,rfl⟩
 |true=>?_
 rw[X]at R;cases J:bn ss i==2 with
 |true=>
  rw[show Ch.fits ss l i=(((ij ss l i true:Nat):Int)==1)by simp[Ch.fits,F,O,X,J]];go_in;go_wp2_with fail;refine cF G ?_;go_wp2_with fail;refine cF E ?_;go_wp2_with fail;refine cF R ?_;go_wp2_with fail;refine cF Q ?_;go_wp2_with fail;refine cF EC ?_;go_wp2;go_ret;exact⟨rfl,rfl⟩
 |false=>?_
 cases U:bn ss i==3 with
 |true=>
  rw[show Ch.fits ss l i=(((ij ss l i false:Nat):Int)==0)by simp[Ch.fits,F,O,X,J,U]];go_in;go_wp2_with fail;refine cF G ?_;go_wp2_with fail;refine cF E ?_;go_wp2_with fail;refine cF R ?_;go_wp2_with fail;refine cF Q ?_;go_wp2_with fail;refine cF ED ?_;go_wp2;go_ret;exact⟨rfl,rfl⟩
 |false=>?_
 cases k5:bn ss i==5 with
 |true=>
  rw[show Ch.fits ss l i=false by simp[Ch.fits,F,O,X,J,U,k5]];go_in;go_wp2_with fail;refine cF G ?_;go_wp2_with fail;refine cF E ?_;go_wp2_with fail;refine cF R ?_;go_wp2_with fail;refine cF Q ?_;go_wp2;go_ret;exact⟨rfl,rfl⟩
 |false=>?_
 rw[show Ch.fits ss l i=true by simp[Ch.fits,F,O,X,J,U,k5]];go_in;go_wp2_with fail;refine cF G ?_;go_wp2_with fail;refine cF E ?_;go_wp2_with fail;refine cF R ?_;go_wp21;refine cF Q ?_;exact we
theorem Si D E w ss b o pre I T s g(J:rN w D E ss)(O:ss.length<=1000)(h:fq w b pre s I T)(hw:s.Wf)(ho:pre.length=o):
 Calls prog 160 #[pointer (some ⟨b,o,none⟩),pointer (some ⟨D,E,none⟩),int i64 g] w λx w'=>x=returned (int i64 (l5 ss s g))/\w'=w:=by
 subst ho;have Q:=ag (nB D E w ss g J O);have Z:=ag (iS D E w ss g J O);have X:=ag (qT D E w ss (aW ss g) J O);by_cases h0:g<0
 ·rw[show l5 ss s g=g by simp[l5,h0]];go_in;go_wp2;go_ret;exact⟨rfl,rfl⟩
 have F:decide (g<0)=false:=il;by_cases h1:16<=g
 ·rw[show l5 ss s g=g by simp[l5,h1]];go_in;go_wp2;go_ret;exact⟨rfl,rfl⟩
 have G:decide (16<=g)=false:=il;obtain⟨k,rfl⟩:∃k:Nat,g=(k:Int):=⟨g.toNat,oQ⟩
 have hk:k<16:=oQ;have aa:(k:Int)<16:=oQ;have c:w.cell? _=some (int .u8 (cf s k)):=h.b_ hw hk;have Y:=ag (oy D E w ss (cf s k) J O);cases R:bn ss (k:Int)!=5 with
 |true=>
  rw[show l5 ss s (k:Int)=k by simp[l5,R]];go_in;go_wp2_with fail;refine cF Q ?_;go_wp2;go_ret;exact⟨rfl,rfl⟩
 |false=>?_
 cases U:cf s k==45 with
 |true=>
  rw[show l5 ss s (k:Int)=fj ss (aW ss k)by simp[l5,F,G,R,U]];go_in;go_wp2_with fail;refine cF Q ?_;go_wp2_with fail;refine cF Z ?_;go_wp2_with fail;refine cF X ?_;go_wp2;go_ret;exact⟨rfl,rfl⟩
 |false=>?_
 rw[show l5 ss s (k:Int)=Ch.place ss (cf s k)by simp[l5,F,G,R,U]];go_in;go_wp2_with fail;refine cF Q ?_;go_wp2_with fail;refine cF Y ?_;go_wp2;go_ret;exact⟨rfl,rfl⟩
def ee(d:TypeDesc):Bool:=match d with| .struct _| .array _ _=>true|_=>false
section
variable {P:Program}
theorem tn w b o ty(D:List Value)d(I:∀j v,D[j]? =some v->w.cell? ⟨b,o+j,none⟩=some v)(hu:P.underlying ty=some d)(O:ee d=true)(hi:(P.info? ty).map (·.size)=some D.length):
 (loadVar ty ⟨b,o,none⟩).run P w= .ok (agg D.toArray) w:=by
 have J:(loadCells ⟨b,o,none⟩ D.length).run P w= .ok D.toArray w:=
  run_loadCells_list (P:=P) w ⟨b,o,none⟩ D (λj v hv=>by
   have E:(⟨b,o,none⟩:Addr).add j=⟨b,o+j,none⟩:=by unfold Addr.add;split<;>simp_all
   rw[E];exact I j v hv)
 cases G:P.info? ty with
 |none=>simp_all
 |some i=>?_
 have hs:i.size=D.length:=by simpa[G]using hi
 have F:(isAgg ty).run P w= .ok true w:=by
  unfold isAgg;rw[kQ,run_underlying hu w];cases d<;>simp_all [ee]
 simp[loadVar,Sem.run_bind,F,sizeOf,typeInfo,G,hs,J]
theorem bS{D rest op a w Q}(F:op.guard=none)ty x(G:op.op= .load ty x)b o(O:a.eval x= pointer (some ⟨b,o,none⟩))(E:List Value)d(I:∀j v,E[j]? =some v->w.cell? ⟨b,o+j,none⟩=some v)(hu:P.underlying ty=some d)(J:ee d=true)(hi:(P.info? ty).map (·.size)=some E.length)(h:wpList P D Q rest (a.put op.dst (agg E.toArray)) w):wpList P D Q (op::rest) a w:=
 wpList_plain F λK hK=>by
  unfold Oper.wp execOp;simp only[G,O,Instr.loadAt,Instr.sureAddr,kQ,np,kR,tn w b o ty E d I hu J hi];exact hK _ _ h
theorem results_cell_tmp{G}{p q:Tmp}{ty}(h:G.results= #[.cell p ty,.tmp q])D w g t E I d(O:D.getD p undef= pointer (some ⟨g,0,none⟩))(J:w.heap[g]? =some (cells E t I))(hu:P.underlying ty=some d)(Q:ee d=true)(hi:(P.info? ty).map (·.size)=some E.size):
 (results G D).run P w= .ok (tuple #[agg E,D.getD q undef]) w:=by
 have F:D[p]?.getD undef= pointer (some ⟨g,0,none⟩):=cX O;simp[results,h,F,asAddr,run_loadVar_row w g t ty E I d J hu (by cases d<;>simp_all [ee]) hi]
theorem az{G}{p q r:Tmp}{ty}(h:G.results= #[.cell p ty,.tmp q,.tmp r])D w g t E I d(O:D.getD p undef= pointer (some ⟨g,0,none⟩))(J:w.heap[g]? =some (cells E t I))(hu:P.underlying ty=some d)(Q:ee d=true)(hi:(P.info? ty).map (·.size)=some E.size):
 (results G D).run P w= .ok (tuple #[agg E,D.getD q undef,D.getD r undef]) w:=by
 have F:D[p]?.getD undef= pointer (some ⟨g,0,none⟩):=cX O;simp[results,h,F,asAddr,run_loadVar_row w g t ty E I d J hu (by cases d<;>simp_all [ee]) hi]
theorem bJ{F:Array Oper}{rest:List Oper}{o:Oper}{a:Act}{w:World}{Q:Exit->Act->World->Prop}{ty:TypeId}{x y:Operand}{g:Nat}{t:TypeId}{D:Array Value}(cells:Array Value)
 (J:w.heap[g]? =some (.cells D t (0,0))) (hi:(P.info? ty).map (·.size)=some cells.size) (E:D.size=cells.size) (I:cells.all (λv=>v.oneCell')=true)
 (h:wpList P F Q rest (a.put o.dst undef) (w.setRow g cells)) (G:o.guard=none:=by exact rfl) (O:o.op= .store ty x y:=by exact rfl)
 (R:a.eval x= pointer (some ⟨g,0,none⟩):=by exact rfl) (U:a.eval y= agg cells:=by exact rfl):wpList P F Q (o::rest) a w:=
 wpList_store_row G ty x y O g cells R U t D J hi E I h
theorem gV{D:Array Oper}{rest:List Oper}{o:Oper}{a:Act}{w:World}{Q:Exit->Act->World->Prop}{ty:TypeId}{x:Operand}{g:Nat}{t:TypeId}{E:Array Value}{G:Nat×Nat}{d:TypeDesc}
 (I:w.heap[g]? =some (cells E t G)) (hu:P.underlying ty=some d) (R:ee d=true) (hi:(P.info? ty).map (·.size)=some E.size)
 (h:wpList P D Q rest (a.put o.dst (agg E)) w) (F:o.guard=none:=by exact rfl) (J:o.op= .load ty x:=by exact rfl)
 (O:a.eval x= pointer (some ⟨g,0,none⟩):=by exact rfl):wpList P D Q (o::rest) a w:=
 ns F ty x J g O t E G d I hu (by cases d<;>simp_all [ee]) hi h
theorem kH{E:Func}{R:Ending->World->Prop}{a:Act}{p q:Tmp}{ty:TypeId}{w:World}{g:Nat}{t:TypeId}{D:Array Value}{F:Nat×Nat}{d:TypeDesc}
 (O:w.heap[g]? =some (cells D t F)) (hu:P.underlying ty=some d) (I:ee d=true) (hi:(P.info? ty).map (·.size)=some D.size)
 (G:R (returned (tuple #[agg D,a.tmps.getD q undef])) w) (h:E.results= #[.cell p ty,.tmp q]:=by exact rfl) (Q:a.tmps.getD p undef= pointer (some ⟨g,0,none⟩):=by exact rfl)
 (J:a.defers=[]:=by exact rfl):bodyPost P E R .ret a w:=
 aJ (results_cell_tmp h _ _ g t D F d Q O hu I hi) J G
theorem uY{E:Func}{R:Ending->World->Prop}{a:Act}{p:Tmp}{ty:TypeId}{w:World}{g:Nat}{t:TypeId}{D:Array Value}{F:Nat×Nat}{d:TypeDesc}
 (J:w.heap[g]? =some (cells D t F)) (hu:P.underlying ty=some d) (Q:ee d=true) (hi:(P.info? ty).map (·.size)=some D.size)
 (G:R (returned (agg D)) w) (h:E.results= #[.cell p ty]:=by exact rfl) (O:a.tmps.getD p undef= pointer (some ⟨g,0,none⟩):=by exact rfl)
 (I:a.defers=[]:=by exact rfl):bodyPost P E R .ret a w:=
 aJ (results_cell_row h _ _ g t D F d O J hu (by cases d<;>simp_all [ee]) hi) I G
end
theorem rV:(prog.info? 91).map (·.size)=some 16:=bZ
theorem nF:(prog.info? 93).map (·.size)=some 16:=bZ
theorem dh:(prog.info? 95).map (·.size)=some 36:=bZ
theorem NI:(eL:Array Value).all (λx=>x.oneCell')=true:=bZ
theorem FJ:(kb:Array Value).all (λx=>x.oneCell')=true:=bZ
theorem Bz:∃d,prog.underlying 91=some d/\ee d=true:=⟨_,underlying91,rfl⟩
theorem FK:∃d,prog.underlying 93=some d/\ee d=true:=⟨_,underlying93,rfl⟩
theorem g7:∃d,prog.underlying 95=some d/\ee d=true:=⟨_,underlying95,rfl⟩
namespace Ch
def eX:List Bool:=List.replicate 16 false
def AF(ss:List St)(t:ByteArray):Nat->Nat->Int->List Bool->Option (List Bool)
 |0,_,_,l=>some l
 |f+1,k,last,l=>if place ss (af t k)<=last then none else AF ss t f (k+1) (place ss (af t k)) (tf l (place ss (af t k)) true)
def allFit(ss:List St)(l:List Bool)(k:Nat):Bool:=(List.range k).all λj=>fits ss l (j:Int)
def oJ(ss:List St)(t:ByteArray):Option (List Bool):=
 match AF ss t t.size 0 (-1) eX with
 |none=>none
 |some l=>if allFit ss l ss.length then some l else none
theorem Ho ss l k:allFit ss l (k+1)=(allFit ss l k&&fits ss l (k:Int)):=by
 unfold allFit;rw[lT,List.all_append];simp
theorem OT{ss l}{k:Nat}(hk:k<ss.length)(h:fits ss l (k:Int)=false):allFit ss l ss.length=false:=by
 unfold allFit;rw[List.all_eq_false];exact⟨k,by simpa using hk,by simp[h]⟩
def db(ss:List St)(t:ByteArray):List Bool×Bool:=match oJ ss t with|some l=>(l,true)|none=>(eX,false)
theorem VK ss t:∀ f k last l m,AF ss t f k last l=some m->m.length=l.length:=by
 intro f;induction f with
 |zero=>intro k last l m h;simp[AF]at h;rw[h]
 |succ f D=>?_
 intro k last l m h;simp only[AF]at h;split at h
 ·cases h
 have:=D _ _ _ _ h;rw[this,nD]
theorem nG ss t:(db ss t).1.length=16:=by
 unfold db oJ;cases h:AF ss t t.size 0 (-1) eX with
 |none=>rfl
 |some l=>?_
 have:=VK ss t _ _ _ _ _ h;by_cases q:allFit ss l ss.length=true
 ·simp[q];rw[this];rfl
 simp[q];rfl
end Ch
theorem BA R X w ss t(ht:t.size<=9223372036854775807)(hS:rN w R X ss)(hl:ss.length<=1000):
 Calls prog 125 #[pointer (some ⟨R,X,none⟩),string t] w λx w'=>x=returned (tuple #[agg ((db ss t).1.map Value.bool).toArray,bool (db ss t).2])/\Kp bA w w':=by
 have⟨ds,hds,iT⟩:=Bz;have aa:rN ((w.alloc (cells eL 91)).alloc (cells eL 91)) R X ss:=(hS.alloc _).alloc _;have aj:((w.alloc (cells eL 91)).alloc (cells eL 91)).heap[w.heap.size]? =some (cells eL 91):=by
  rw[cE _ _ _ (by simp)];exact ak _ _
 have F:lE ((w.alloc (cells eL 91)).alloc (cells eL 91)) (w.heap.size+1) [] eX [] 91:=jM w _ _;have K2:Kp bA w ((w.alloc (cells eL 91)).alloc (cells eL 91)):=((Kp.refl _ _).alloc _).alloc _;have wm:R<w.heap.size:=by have⟨sv,base,hc,_⟩:=hS;exact oP w _ hc
 have a2:∀J,w.heap[w.heap.size+1]? =some (cells J 155 (0,0))->False:=by intro J h;have:=aR h;omega
 go_enter func125,ntmps125;go_wp;generalize ((w.alloc (cells eL 91)).alloc (cells eL 91))=w2 at aa aj F K2⊢
 go_loopw [7,8] (λlast i wr=>∃(k:Nat) (la:Int) (l:List Bool),last= int i64 la/\i= int i64 k/\k<=t.size/\Hid (AF ss t t.size 0 (-1) eX=AF ss t (t.size-k) k la l)/\l.length=16/\
  lE wr (w.heap.size+1) [] l [] 91/\Kp (λk=>k=w.heap.size+1) w2 wr) (λ_ i _=>t.size-(intOf i).toNat)
 case atStart=>exact⟨0,-1,eX,rfl,rfl,aA _,ag rfl,rfl,F,Kp.refl _ _⟩
 case round=>
  obtain⟨k,la,l,rfl,rfl,hk,HE,E,h1,K1⟩:=hrel;have O:rN wr R X ss:=aa.aB K1 (λx=>by omega) (λi J hc x=>by subst x;unfold lE at F;rw[F]at hc;simp at hc);have G:wr.heap[w.heap.size]? =some (cells eL 91):=K1.at_ aj (λx=>by omega);have Z:Kp bA w wr:=K2.trans' K1 (λi hi x=>by omega);have KZ:Kp bA w (wr.setRow w.heap.size eL):=Z.setRow (λx=>by omega) _;by_cases aI:k<t.size
  ·have aO:(k:Int)<t.size:=by omega
   have ad:af t k=((t[k]'aI).toNat:Int):=by simp[af,aI]
   have ef:t.size-k=(t.size-(k+1))+1:=by omega
   have I:=ag (oy R X wr ss ((t[k]'aI).toNat:Int) O hl);by_cases Q:Ch.place ss ((t[k]'aI).toNat:Int)<=la
   ·have U:=ag (show db ss t=(eX,false)by
     have e:AF ss t t.size 0 (-1) eX=none:=by rw[HE,ef];simp only[AF];rw[ad,aq Q]
     simp[db,oJ,e])
    go_wp;refine cF I ?_;go_wp2_with (refine bJ eL G rV rfl NI ?_);refine kH (an _ _ _ _ _ _ G) hds iT rV ?_;rw[U];exact⟨rfl,KZ⟩
   have U:=ag (show AF ss t t.size 0 (-1) eX=AF ss t (t.size-(k+1)) (k+1) (Ch.place ss ((t[k]'aI).toNat:Int)) (tf l (Ch.place ss ((t[k]'aI).toNat:Int)) true)by
    rw[HE,ef];simp only[AF];rw[ad,ax Q])
   have aS:¬Ch.place ss ((t[k]'aI).toNat:Int)<=la:=Q;have E2:=ag (FH wr (w.heap.size+1) 0 [] l [] 91 (Ch.place ss ((t[k]'aI).toNat:Int)) h1 E rfl);have HK:=ag K1;go_wp;refine cF I ?_;go_wp21;refine hm E2 ?_;rintro x w3 ⟨rfl,h3,K3⟩;have K4:=HK.trans K3;go_wp2;exact⟨⟨k+1,_,_,rfl,by go_num,by omega,U,by rw[nD];exact E,h3,K4⟩,ew⟩
  have a0:¬(k:Int)<t.size:=by omega
  have U:=ag (show AF ss t t.size 0 (-1) eX=some l by rw[HE,show t.size-k=0 by omega];rfl);have⟨ao,cap,c2⟩:=O.len;have HH:=c_ h1 G Z;go_wp;go_loop [10] (λi=>∃j:Nat,i= int i64 j/\j<=ss.length/\Hid (Ch.allFit ss l j=true)) (λi=>ss.length-(intOf i).toNat)
  case atStart=>exact⟨0,rfl,aA _,ag rfl⟩
  case round=>
   obtain⟨j,rfl,hj,HA⟩:=hrel;by_cases ap:j<ss.length
   ·have Lg:(j:Int)<ss.length:=by omega
    have I:=ag (Sh R X wr ss (w.heap.size+1) 0 [] l [] 91 j O hl h1 E rfl);cases q:Ch.fits ss l (j:Int)with
    |false=>
     have Y:=ag (show db ss t=(eX,false)by simp[db,oJ,U.out,OT ap q]);rw[q]at I;go_wp;refine hm I ?_;rintro x w1 ⟨rfl,rfl⟩;have⟨h1,G,Z⟩:=HH;have KZ:Kp bA w (w1.setRow w.heap.size eL):=Z.setRow (λx=>by omega) _;go_wp2_with (refine bJ eL G rV rfl NI ?_);refine kH (an _ _ _ _ _ _ G) hds iT rV ?_;rw[Y];exact⟨rfl,KZ⟩
    |true=>?_
    have Y:=ag (show Ch.allFit ss l (j+1)=true by rw[Ho,HA,q];rfl);rw[q]at I;go_wp;refine cF I ?_;go_wp2;exact⟨⟨j+1,by go_num,by omega,Y⟩,ew⟩
   have a1:¬(j:Int)<ss.length:=by omega
   obtain rfl:j=ss.length:=by omega
   have Y:=ag (show db ss t=(l,true)by simp[db,oJ,U.out,HA.out]);have am:wr.heap[w.heap.size+1]? =some (cells (l.map Value.bool).toArray 91 (0,0)):=by have:=h1;unfold lE at this;simpa using this
   have iL:((l.map Value.bool).toArray).size=16:=by simp[E]
   have D:(prog.info? 91).map (·.size)=some ((l.map Value.bool).toArray).size:=by rw[iL];exact rV
   have ab:((l.map Value.bool).toArray).all (·.oneCell')=true:=by apply gH.2;intro x hx;simp only[kP,gY]at hx;obtain⟨a,_,rfl⟩:=hx;rfl
   have KZ:Kp bA w (wr.setRow w.heap.size (l.map Value.bool).toArray):=Z.setRow (λx=>by omega) _;generalize hL:(l.map Value.bool).toArray=L at*;have HL:=ag hL;go_wp2_with (first|refine ns rfl 91 (tmp 6) rfl (w.heap.size+1) rfl 91 L (0,0) ds am hds (by cases ds<;>simp_all [ee]) D ?_|refine bJ L G D iL.symm ab ?_);refine kH (an _ _ _ _ _ _ G) hds iT D ?_;rw[Y,<-HL];exact⟨rfl,by rw[HL];exact KZ⟩
namespace Ch
def zn:List Int:=List.replicate 16 0
def fZ(ss:List St)(j:Nat):Bool:=match ss[j]? with|some s=>s.kind==5|none=>false
def jZ(ss:List St)(k:Nat):List Int:=(List.range 16).map λj=>if decide (j<k)&&fZ ss j then 45 else 0
def eN(ss:List St):List Int:=jZ ss 16
theorem xp ss k:(jZ ss k).length=16:=by simp[jZ]
theorem Lh{ss k}(hk:k<16)(h:fZ ss k=true):jZ ss (k+1)=(jZ ss k).set k 45:=by
 apply f_;grind[jZ,xp]
theorem OU{ss k}(h:fZ ss k=false):jZ ss (k+1)=jZ ss k:=by
 grind[jZ]
theorem Li{ss k}(h:ss.length<=k\/16<=k):jZ ss k=eN ss:=by
 unfold eN jZ;apply qu;grind[fZ]
theorem gR ss:(eN ss).length=16:=xp _ _
end Ch
def Hp(w:World)(b:Nat)(l:List Int):Prop:=w.heap[b]? =some (cells (bP l).toArray 93 (0,0))
theorem Hp.cell{w b l}(h:Hp w b l)(D:l.length=16){k}(hk:k<16):w.cell? ⟨b,k,none⟩=some (int .u8 (l.getD k 0)):=by
 unfold Hp at h;simp[World.cell?,h,bP,show k<l.length by omega]
theorem Hp.free{w b l}(h:Hp w b l)i:w.frozen? ⟨b,i,none⟩=false:=by unfold Hp at h;simp[World.frozen?,h]
theorem Hp.set{w b l}(h:Hp w b l)k v:Hp (w.setCell ⟨b,k,none⟩ (int .u8 v)) b (l.set k v):=by
 unfold Hp at*;rw[ar _ h];simp_all[bP]
theorem x_ l:(bP l).toArray.all (λx=>x.oneCell')=true:=by
 apply gH.2;intro x D;simp only[bP,kP,gY]at D;obtain⟨a,_,rfl⟩:=D;rfl
theorem tq{l}(D:l.length=16):(bP l).toArray.size=16:=by simp[bP,D]
theorem Yv:prog.underlying 93=some (.array (prog.arrayLen 93) (prog.elem 93)):=bZ
theorem Yw:prog.arrayLen 93=16:=bZ
theorem VL:prog.elem 93=5:=bZ
theorem zq w b o(k:Nat)(hk:k<16):(Instr.indexAt 93 (pointer (some ⟨b,o,none⟩)) (int i64 (k:Int))).run prog w= .ok (pointer (some ⟨b,o+k,none⟩)) w:=by
 rw[run_indexAt_array (h:=Yv),Yw,VL,aq oQ];have hs:(sizeOf 5).run prog w= .ok 1 w:=by
  simp_all
 rw[hs];simp only[kR,dE,Nat.mul_one,Addr.add];simp_all
theorem w_ ob oo w ss(hS:rN w ob oo ss):
 Calls prog 115 #[pointer (some ⟨ob,oo,none⟩)] w λx w'=>x=returned (agg (bP (eN ss)).toArray)/\Kp bA w w':=by
 have⟨F,hds,iT⟩:=FK;have O:rN ((w.alloc (cells kb 93)).alloc (cells kb 93)) _ _ _:=(hS.alloc _).alloc _;have U:((w.alloc (cells kb 93)).alloc (cells kb 93)).heap[w.heap.size]? =some (cells kb 93):=by
  rw[cE _ _ _ dy];exact ak _ _
 have E:Hp ((w.alloc (cells kb 93)).alloc (cells kb 93)) _ (jZ ss 0):=jM w _ _;have K2:Kp bA w ((w.alloc (cells kb 93)).alloc (cells kb 93)):=((Kp.refl _ _).alloc _).alloc _;have wm:ob<w.heap.size:=by have⟨sv,base,hc,_⟩:=hS;exact oP w _ hc
 go_in;go_wp;generalize ((w.alloc (cells kb 93)).alloc (cells kb 93))=w2 at O U E K2⊢;go_loopw [4] (λi wr=>∃k:Nat,i= int i64 k/\k<=16/\k<=ss.length/\Hp wr (w.heap.size+1) (jZ ss k)/\Kp (λk=>k=w.heap.size+1) w2 wr) (λi _=>16-(intOf i).toNat)
 case atStart=>exact⟨0,rfl,aA _,aA _,E,Kp.refl _ _⟩
 case round=>
  obtain⟨k,rfl,Sj,ad,Z,Y⟩:=hrel;have Q:=O.aB Y (λx=>oQ) (λi cur hc x=>by subst x;unfold Hp at E;rw[E]at hc;simp at hc);have hr:=Y.at_ U (λx=>oQ);have KX:=K2.trans' Y (λi hi x=>oQ);by_cases aa:k<ss.length/\k<16
  ·have⟨R,h16⟩:=aa;obtain⟨s,hs⟩:∃s,ss[k]? =some s:=⟨_,au R⟩
   have⟨g,cap,c2,a0,a1,a2,a3⟩:=Q.at_ hs;have G:(k:Int)<ss.length:=oQ;have zb:(k:Int)<16:=oQ;have cw:=Z.cell (xp _ _) h16;have fw:=Z.free k;have ab:=λw'=>zq w' (w.heap.size+1) 0 k h16;simp only[eG]at ab;have X:=bw Z Y;cases q:s.kind==5 with
   |true=>
    have HS:=ag (Lh h16 (show fZ ss k=true by simp[fZ,hs,q]));go_wp2;exact⟨⟨k+1,eb,oQ,oQ,by rw[HS];exact X.1.set k 45,X.2.setCell jF _⟩,ew⟩
   |false=>?_
   have HS:=ag (OU (show fZ ss k=false by simp[fZ,hs,q]));go_wp2;exact⟨⟨k+1,eb,oQ,oQ,by rw[HS];exact X.1,X.2⟩,ew⟩
  have HE:=ag (Li (ss:=ss) (k:=k) oQ);have J:wr.heap[w.heap.size+1]? =some (cells (bP (eN ss)).toArray 93 (0,0)):=by have:=Z;rw[HE]at this;exact this
  have D:(prog.info? 93).map (·.size)=some ((bP (eN ss)).toArray).size:=by rw[tq (gR ss)];exact nF
  have iL:=tq (gR ss);have I:=x_ (eN ss);have KZ:Kp _ _ (wr.setRow w.heap.size (bP (eN ss)).toArray):=KX.setRow (λx=>oQ) _;have⟨ao,cap,c2⟩:=Q.len;generalize hL:(bP (eN ss)).toArray=L at*;have HL:=ag hL;by_cases R:k<ss.length
  ·have G:(k:Int)<ss.length:=oQ;have zb:decide ((k:Int)<16)=false:=il;go_wp2_with (first|refine ns rfl 93 (tmp 3) rfl (w.heap.size+1) rfl 93 L (0,0) F J hds (by cases F<;>simp_all [ee]) D ?_|refine bJ L hr D iL.symm I ?_);refine aJ (results_cell_row rfl _ _ w.heap.size 93 L (0,0) F rfl (an _ _ _ _ _ _ hr) hds (by cases F<;>simp_all [ee]) D) rfl ?_;rw[HL];exact⟨rfl,KZ⟩
  have G:decide ((k:Int)<(ss.length:Int))=false:=il;go_wp2_with (first|refine ns rfl 93 (tmp 3) rfl (w.heap.size+1) rfl 93 L (0,0) F J hds (by cases F<;>simp_all [ee]) D ?_|refine bJ L hr D iL.symm I ?_);refine aJ (results_cell_row rfl _ _ w.heap.size 93 L (0,0) F rfl (an _ _ _ _ _ _ hr) hds (by cases F<;>simp_all [ee]) D) rfl ?_;rw[HL];exact⟨rfl,KZ⟩
namespace Ch
def wo(ss:List St)(t:ByteArray):Nat->Nat->Nat->List Int->Option (List Int×Nat)
 |0,_,n,l=>some (l,n)
 |f+1,k,n,l=>
  if fZ ss k then
   if decide (t.size<=n)|| !jz ss (k:Int) (af t n)then none else wo ss t f (k+1) (n+1) (l.set k (af t n))
  else wo ss t f (k+1) n l
def cK(ss:List St)(t:ByteArray):List Int×Bool:=
 match wo ss t (min ss.length 16) 0 0 (eN ss)with
 |some (l,n)=>if(n:Int)!=(t.size:Int)then(zn,false)else(l,true)
 |none=>(zn,false)
theorem VM ss t:∀ f k n l r,wo ss t f k n l=some r->r.1.length=l.length:=by
 intro f;induction f with
 |zero=>intro k n l r h;simp[wo]at h;rw[<-h]
 |succ f D=>?_
 intro k n l r h;simp only[wo]at h;split at h
 ·split at h
  ·cases h
  have:=D _ _ _ _ h;simpa using this
 exact D _ _ _ _ h
theorem l7 ss t:(cK ss t).1.length=16:=by
 unfold cK;cases h:wo ss t (min ss.length 16) 0 0 (eN ss)with
 |none=>rfl
 |some r=>?_
 have⟨l,n⟩:=r;have:=VM ss t _ _ _ _ _ h;simp only;split
 ·rfl
 rw[this];exact gR ss
end Ch
theorem FM J Q w ss t(ht:t.size<=9223372036854775807)(hS:rN w J Q ss)(hl:ss.length<=1000):
 Calls prog 126 #[pointer (some ⟨J,Q,none⟩),string t] w λx w'=>x=returned (tuple #[agg (bP (cK ss t).1).toArray,bool (cK ss t).2])/\Kp bA w w':=by
 have⟨ds,hds,iT⟩:=FK;have Z:rN (w.alloc (cells kb 93)) J Q ss:=hS.alloc _;have a7:(w.alloc (cells kb 93)).heap[w.heap.size]? =some (cells kb 93):=ak _ _;have X:=kG w (cells kb 93);have wm:J<w.heap.size:=by have⟨sv,base,hc,_⟩:=hS;exact oP w _ hc
 have E0:=ag (w_ J Q (w.alloc (cells kb 93)) ss Z);have Sk:=tq (gR ss);have NJ:(prog.info? 93).map (·.size)=some ((bP (eN ss)).toArray).size:=by rw[Sk];exact nF
 have Sl:=x_ (eN ss);go_in;go_wp;refine b9 E0 ?_;intro D K2;have aS:rN D J Q ss:=Z.aB K2 (λx=>x) (λ_ _ _ x=>x);have aj:=K2.at_ a7 (λx=>x);have K3:=X.trans K2;have aI:w.heap.size<D.heap.size:=aR aj;have aa:=ak D (cells kb 93);generalize hL:(bP (eN ss)).toArray=L at*;have HL:=ag hL;go_wp2_with (refine bJ L aa NJ Sk.symm Sl ?_);have F:Hp ((D.alloc (cells kb 93)).setRow D.heap.size L) D.heap.size (eN ss):=by
  unfold Hp;rw[an _ _ _ _ _ _ aa,HL]
 have Kn:=rQ D (cells kb 93) L;have Dd:rN ((D.alloc (cells kb 93)).setRow D.heap.size L) J Q ss:=aS.aB Kn (λx=>x) (λ_ _ _ x=>x);have am:=Kn.at_ aj (λx=>x);have K4:=K3.trans Kn;generalize (D.alloc (cells kb 93)).setRow D.heap.size L=w4 at F Dd am K4⊢;have aO:=K3.size;generalize D.heap.size=pb at F aI aO⊢;go_wp
 go_loopw [7,8] (λnn i wr=>∃(k n:Nat) (l:List Int),nn= int i64 n/\i= int i64 k/\k<=16/\k<=ss.length/\n<=k/\Hid (wo ss t (min ss.length 16) 0 0 (eN ss)=wo ss t (min ss.length 16-k) k n l)/\l.length=16/\
  Hp wr pb l/\Kp (λk=>k=pb) w4 wr) (λ_ i _=>16-(intOf i).toNat)
 case atStart=>exact⟨0,0,eN ss,rfl,rfl,aA _,aA _,aA _,ag rfl,gR ss,F,Kp.refl _ _⟩
 case round=>
  obtain⟨k,n,l,rfl,rfl,Sj,ba,bb,Y,wT,h1,X⟩:=hrel;have U:rN wr J Q ss:=Dd.aB X (λx=>oQ) (λi cur hc x=>by subst x;unfold Hp at F;rw[F]at hc;simp at hc);have O:wr.heap[w.heap.size]? =some (cells kb 93):=X.at_ am (λx=>oQ);have KX:Kp bA w wr:=K4.trans' X (λi hi x=>oQ);by_cases a4:k<ss.length/\k<16
  ·have⟨hlt,h16⟩:=a4;obtain⟨s,hs⟩:∃s,ss[k]? =some s:=⟨_,au hlt⟩
   have⟨g,cap,c2,a0,a1,a2,a3⟩:=U.at_ hs;have a8:(k:Int)<ss.length:=oQ;have zb:(k:Int)<16:=oQ;have ef:min ss.length 16-k=(min ss.length 16-(k+1))+1:=oQ;have HH:=bw h1 X;cases q:s.kind !=5 with
   |true=>
    have hh:fZ ss k=false:=by simp[fZ,hs];simpa using q
    have E:=ag (show wo ss t (min ss.length 16) 0 0 (eN ss)=wo ss t (min ss.length 16-(k+1)) (k+1) n l by rw[Y,ef];simp[wo,hh]);go_wp2;exact⟨⟨k+1,n,l,rfl,eb,oQ,oQ,oQ,E,wT,HH.1,HH.2⟩,ew⟩
   |false=>?_
   have hh:fZ ss k=true:=by simp[fZ,hs];simpa using q
   by_cases hn:n<t.size
   ·have a6:decide ((t.size:Int)<=(n:Int))=false:=il;have a9:(n:Int)<t.size:=oQ;have nP:decide (t.size<=n)=false:=il;have ad:af t n=((t[n]'hn).toNat:Int):=by simp[af,hn]
    have E1:=ag (Lf J Q wr ss k ((t[n]'hn).toNat:Int) U hl);cases qi:jz ss (k:Int) ((t[n]'hn).toNat:Int)with
    |false=>
     have E:=ag (show cK ss t=(zn,false)by
      have e:wo ss t (min ss.length 16) 0 0 (eN ss)=none:=by rw[Y,ef];simp[wo,hh,ad,qi]
      simp[cK,e])
     rw[qi]at E1;have R:Kp bA w (wr.setRow w.heap.size kb):=KX.setRow (λx=>oQ) _;go_wp;refine cF E1 ?_;go_wp2_with (refine bJ kb O nF rfl FJ ?_);refine kH (an _ _ _ _ _ _ O) hds iT nF ?_;rw[E];exact⟨rfl,R⟩
    |true=>?_
    have E:=ag (show wo ss t (min ss.length 16) 0 0 (eN ss)=wo ss t (min ss.length 16-(k+1)) (k+1) (n+1) (l.set k ((t[n]'hn).toNat:Int))by rw[Y,ef];simp[wo,hh,ad,qi,nP]);rw[qi]at E1;have a5:=λw'=>zq w' pb 0 k h16;simp only[eG]at a5;have cw:=h1.cell wT h16;have fw:=h1.free k;go_wp;refine cF E1 ?_;go_wp2;exact⟨⟨k+1,n+1,_,eb,eb,oQ,oQ,oQ,E,by simpa using wT,HH.1.set k _,HH.2.setCell jF _⟩,ew⟩
   have a6:(t.size:Int)<=n:=oQ;have E:=ag (show cK ss t=(zn,false)by
    have e:wo ss t (min ss.length 16) 0 0 (eN ss)=none:=by rw[Y,ef];simp[wo,hh];intro x;omega
    simp[cK,e])
   have R:Kp bA w (wr.setRow w.heap.size kb):=KX.setRow (λx=>oQ) _;go_wp2_with (refine bJ kb O nF rfl FJ ?_);refine kH (an _ _ _ _ _ _ O) hds iT nF ?_;rw[E];exact⟨rfl,R⟩
  have HG:=ag (show wo ss t (min ss.length 16) 0 0 (eN ss)=some (l,n)by rw[Y,show min ss.length 16-k=0 by omega];rfl);have⟨ao,cap,c2⟩:=U.len;have G:((k:Int)<(ss.length:Int)/\decide ((k:Int)<16)=false)\/decide ((k:Int)<(ss.length:Int))=false:=by
   by_cases x:k<ss.length
   ·left;exact⟨oQ,by simp;omega⟩
   right;simp;omega
  cases qn:((n:Int)!=(t.size:Int))with
  |true=>
   have E:=ag (show cK ss t=(zn,false)by simp only[cK,HG.out,qn,aQ]);have R:Kp bA w (wr.setRow w.heap.size kb):=KX.setRow (λx=>oQ) _;rcases G with⟨x1,x2⟩|x1
   all_goals
    go_wp2_with (refine bJ kb O nF rfl FJ ?_)
    all_goals
     refine kH (an _ _ _ _ _ _ O) hds iT nF ?_;rw[E];exact⟨rfl,R⟩
  |false=>?_
  have E:=ag (show cK ss t=(l,true)by simp[cK,HG.out,qn]);have ap:wr.heap[pb]? =some (cells (bP l).toArray 93 (0,0)):=h1;have iL:=tq wT;have I:(prog.info? 93).map (·.size)=some ((bP l).toArray).size:=by rw[iL];exact nF
  have ab:=x_ l;have R:Kp bA w (wr.setRow w.heap.size (bP l).toArray):=KX.setRow (λx=>oQ) _;generalize hL:(bP l).toArray=L at*;have HL:=ag hL;rcases G with⟨x1,x2⟩|x1
  all_goals
   go_wp2_with (first|refine ns rfl 93 (tmp 6) rfl pb rfl 93 L (0,0) ds ap hds (by cases ds<;>simp_all [ee]) I ?_|refine bJ L O I iL.symm ab ?_)
   all_goals
    refine kH (an _ _ _ _ _ _ O) hds iT I ?_;rw[E,<-HL];exact⟨rfl,by rw[HL];exact R⟩
namespace Ch
def send(s:Sd)(ev d:Int):Bool×Sd:=if 16<=s.tm.size then(false,s)else(true,{s with tm:=s.tm++strOfNums [ev,48+d]})
end Ch
theorem Sn w b o pre s D T ev d(h:fq w b pre s D T)(hw:s.Wf)(Y:pre.length=o)(hd:0<=d)(X:d<=9):
 Calls prog 223 #[pointer (some ⟨b,o,none⟩),int .u8 ev,int i64 d] w λx w'=>x=returned (bool (Ch.send s ev d).1)/\fq w' b pre (Ch.send s ev d).2 D T/\Kp (λk=>k=b) w w':=by
 subst Y;have Z:=h.tm hw;have R:=h.lt;have F:=ag h;by_cases hb:16<=s.tm.size
 ·rw[show Ch.send s ev d=(false,s)by simp[Ch.send,hb]];have E:(16:Int)<=s.tm.size:=oQ;go_in;exact iN F
 rw[show Ch.send s ev d=(true,{s with tm:=s.tm++strOfNums [ev,48+d]})by simp[Ch.send,hb]];have E:¬(16:Int)<=s.tm.size:=oQ;have U:=lU (P:=prog) ((w.alloc (cells #[int .u8 ev,int .u8 (48+d)] 5)).drew) 47 5 underlying47 underlying5 w.heap.size 0 2 2 [ev,48+d] rfl (by
  intro i hi;match i,hi with
  |0,_=>simp
  |1,_=>simp) 9 underlying9
 have G:=λw'=>my (P:=prog) w' s.tm (strOfNums [ev,48+d]) (by rw[dC];simp;omega);have Q:fq ((w.alloc (cells #[int .u8 ev,int .u8 (48+d)] 5)).drew) _ _ _ _ _:=h.aB (S:=bA) ((Kp.refl _ _).alloc _).drew (λx=>x);have I:=Q.tm hw;have J:=λo=>(h.aB (S:=bA) ((Kp.refl _ _).alloc o) (λx=>x)).tm hw;have O:∀o,(w.alloc o).frozen? ⟨b,pre.length+32,none⟩=false:=λo=>(h.aB (S:=bA) ((Kp.refl _ _).alloc o) (λx=>x)).free _;go_in;go_wp2;go_region
 all_goals
  go_wp2;go_ret;exact⟨rfl,(F.NH hw _).aB (S:=bA) (((Kp.refl _ _).alloc _).drew) (λx=>x),(((Kp.refl _ _).setCell jF _).alloc _).drew⟩
