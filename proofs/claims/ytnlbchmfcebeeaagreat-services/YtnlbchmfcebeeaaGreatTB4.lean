import Derived.Test.YtnlbchmfcebeeaaGreatTA6
set_option maxHeartbeats 12800000
set_option maxRecDepth 100000
namespace Go.Proofs.YtnlbchmfcebeeaaGreat
open Go.Proofs.Tryz Ch
open Go.RowKit
namespace Ch
def r0:Rs:=⟨0,[],[],[],[]⟩
theorem ud(t:ByteArray):Ok t r0:=⟨⟨aC _,aC _,aC _,aC _⟩,aG _⟩
def chart(t:ByteArray):Bool×Rs:=
 if ag t 0==40||ag t 0==91 then
  if(bL t (aP t (t.size+1)) (-1) r0).1 then((((bL t (aP t (t.size+1)) (-1) r0).2.pos:Int)==(t.size:Int)),(bL t (aP t (t.size+1)) (-1) r0).2)
  else(false,(bL t (aP t (t.size+1)) (-1) r0).2)
 else(false,r0)
structure Ol where
 ai:List St
 cW:List Tr
 eR:List Bl
def read(t:ByteArray):Int×Int×Ol:=
 if 240<t.size then(1,0,⟨[],[],[]⟩)
 else if(chart t).1 then
  if(fa (chart t).2.ai (chart t).2.cN).1==0 then(0,0,⟨(chart t).2.ai,(chart t).2.cW,(chart t).2.eR⟩)
  else((fa (chart t).2.ai (chart t).2.cN).1,(fa (chart t).2.ai (chart t).2.cN).2,⟨[],[],[]⟩)
 else(2,(chart t).2.pos,⟨[],[],[]⟩)
theorem Dr(t:ByteArray):Ok t (chart t).2:=by
 unfold chart
 split
 ·rename_i q
  have D:0<t.size:=by
   grind[cY]
  grind[jl,jZ,r0,ud]
 grind[ud]
end Ch
structure Dh(w:World)(B:Nat)(o:Ol)(sv tv bv:Value)(lt:List (Tr×Value))(lb:List (Bl×Value)):Prop where
 ai:w.ownsRow B 155 4 sv o.ai.length (fB o.ai)
 F9:lt.map (·.1)=o.cW
 cW:w.ownsRow B 209 7 tv lt.length (qT lt)
 j_:∀x∈lt,w.ownsRow B 255 3 x.2 x.1.bD.length (gT x.1.bD)
 I8:lb.map (·.1)=o.eR
 eR:w.ownsRow B 282 3 bv lb.length (qU lb)
 rY:∀x∈lb,w.ownsRow B 255 3 x.2 x.1.bD.length (gT x.1.bD)
section
variable (B b:Nat) (t:ByteArray) (w:World)
theorem Kf(H:Rd w B b t Ch.r0)(ht:t.size<=240):
 Calls prog 68 #[.pointer (some ⟨b,0,none⟩)] w λx w'=>x= .returned (.bool (chart t).1)/\Rd w' B b t (chart t).2/\Below B w w':=by
 obtain⟨sv,tv,bv,uv,lt,lb,h⟩:=H
 cases X:ag t 0==40 with
 |true=>
  have Z:=dy (c:=40) (by omega) X
  have am:(ag t 0 !=40)=false:=by simpa using X
  cases O:(bL t (aP t (t.size+1)) (-1) Ch.r0).1 with
  |false=>
   rw[show chart t=(false,(bL t (aP t (t.size+1)) (-1) Ch.r0).2)by simp[chart,X,O]];have O:=af O;clear X
   go_enter func68,ntmps68
   go_wp2_with fail
   refine(bC b t 0 _ h.bO.text h.bO.pos).mono ?_;rintro x Y ⟨rfl,G,rfl⟩;have D:Kp (λk=>k=b) w (w.drewN G):=(Kp.refl _ _).drewN _;have J:=h.move D (λ_ _ x=>x) (h.bO.drewN G);have I:=D.below h.bK (λk x=>h.low (Or.inl x));generalize w.drewN G=Y at D J I⊢;clear D h
   go_wp2_with fail
   have E:=g7 B b t (t.size+1) (tB B b t ht _) Y Ch.r0 (-1) ⟨_,_,_,_,_,_,J⟩ (ud t) Z (by show t.size<=t.size+1+0;omega) ht;rw[O.out]at E;refine bu E ?_;rintro x w2 ⟨rfl,R2,B2⟩;have U:=I.trans B2;clear E J I B2;go_wp2;go_ret;exact⟨rfl,R2,U⟩
  |true=>?_
  rw[show chart t=((((bL t (aP t (t.size+1)) (-1) Ch.r0).2.pos:Int)==(t.size:Int)),(bL t (aP t (t.size+1)) (-1) Ch.r0).2)by simp[chart,X,O]];have O:=af O;clear X
  go_enter func68,ntmps68
  go_wp2_with fail
  refine(bC b t 0 _ h.bO.text h.bO.pos).mono ?_;rintro x Y ⟨rfl,G,rfl⟩;have D:Kp (λk=>k=b) w (w.drewN G):=(Kp.refl _ _).drewN _;have J:=h.move D (λ_ _ x=>x) (h.bO.drewN G);have I:=D.below h.bK (λk x=>h.low (Or.inl x));generalize w.drewN G=Y at D J I⊢;clear D h
  go_wp2_with fail
  have E:=g7 B b t (t.size+1) (tB B b t ht _) Y Ch.r0 (-1) ⟨_,_,_,_,_,_,J⟩ (ud t) Z (by show t.size<=t.size+1+0;omega) ht;rw[O.out]at E;refine bu E ?_;rintro x w2 ⟨rfl,R2,B2⟩;have U:=I.trans B2;clear E J I B2;obtain⟨ap,aI,aa,aO,aj,ad,F⟩:=R2;have c0:=F.bO.text;have c1:=F.bO.pos;have HH:=af (ae F U);clear F U;go_wp2
  go_quiet (fail)
  go_wp2;go_ret;obtain⟨F,U⟩:=HH.out;have K4:Kp (λk=>k=b) w2 (w2.drewN nq):=(Kp.refl _ _).drewN _;exact⟨rfl,⟨_,_,_,_,_,_,F.move K4 (λ_ _ x=>x) (F.bO.drewN _)⟩,U.trans (K4.below F.bK (λk x=>F.low (Or.inl x)))⟩
 |false=>?_
 have am:(ag t 0 !=40)=true:=by simpa using X
 cases vU:ag t 0==91 with
 |true=>
  have Z:=dy (c:=91) (by omega) vU
  have ao:(ag t 0 !=91)=false:=by simpa using vU
  cases O:(bL t (aP t (t.size+1)) (-1) Ch.r0).1 with
  |false=>
   rw[show chart t=(false,(bL t (aP t (t.size+1)) (-1) Ch.r0).2)by simp[chart,X,vU,O]];have O:=af O;clear X vU
   go_enter func68,ntmps68
   go_wp2_with fail
   refine(bC b t 0 _ h.bO.text h.bO.pos).mono ?_;rintro x Y ⟨rfl,G,rfl⟩;have D:Kp (λk=>k=b) w (w.drewN G):=(Kp.refl _ _).drewN _;have J:=h.move D (λ_ _ x=>x) (h.bO.drewN G);have I:=D.below h.bK (λk x=>h.low (Or.inl x));generalize w.drewN G=Y at D J I⊢;clear D h
   go_wp2_with fail
   have E:=g7 B b t (t.size+1) (tB B b t ht _) Y Ch.r0 (-1) ⟨_,_,_,_,_,_,J⟩ (ud t) Z (by show t.size<=t.size+1+0;omega) ht;rw[O.out]at E;refine bu E ?_;rintro x w2 ⟨rfl,R2,B2⟩;have U:=I.trans B2;clear E J I B2;go_wp2;go_ret;exact⟨rfl,R2,U⟩
  |true=>?_
  rw[show chart t=((((bL t (aP t (t.size+1)) (-1) Ch.r0).2.pos:Int)==(t.size:Int)),(bL t (aP t (t.size+1)) (-1) Ch.r0).2)by simp[chart,X,vU,O]];have O:=af O;clear X vU
  go_enter func68,ntmps68
  go_wp2_with fail
  refine(bC b t 0 _ h.bO.text h.bO.pos).mono ?_;rintro x Y ⟨rfl,G,rfl⟩;have D:Kp (λk=>k=b) w (w.drewN G):=(Kp.refl _ _).drewN _;have J:=h.move D (λ_ _ x=>x) (h.bO.drewN G);have I:=D.below h.bK (λk x=>h.low (Or.inl x));generalize w.drewN G=Y at D J I⊢;clear D h
  go_wp2_with fail
  have E:=g7 B b t (t.size+1) (tB B b t ht _) Y Ch.r0 (-1) ⟨_,_,_,_,_,_,J⟩ (ud t) Z (by show t.size<=t.size+1+0;omega) ht;rw[O.out]at E;refine bu E ?_;rintro x w2 ⟨rfl,R2,B2⟩;have U:=I.trans B2;clear E J I B2;obtain⟨ap,aI,aa,aO,aj,ad,F⟩:=R2;have c0:=F.bO.text;have c1:=F.bO.pos;have HH:=af (ae F U);clear F U;go_wp2
  go_quiet (fail)
  go_wp2;go_ret;obtain⟨F,U⟩:=HH.out;have K4:Kp (λk=>k=b) w2 (w2.drewN nq):=(Kp.refl _ _).drewN _;exact⟨rfl,⟨_,_,_,_,_,_,F.move K4 (λ_ _ x=>x) (F.bO.drewN _)⟩,U.trans (K4.below F.bK (λk x=>F.low (Or.inl x)))⟩
 |false=>?_
 rw[show chart t=(false,Ch.r0)by simp[chart,X,vU]]
 have ao:(ag t 0 !=91)=true:=by simpa using vU
 clear X vU
 go_enter func68,ntmps68
 go_wp2_with fail
 refine(bC b t 0 _ h.bO.text h.bO.pos).mono ?_;rintro x Y ⟨rfl,G,rfl⟩;have D:Kp (λk=>k=b) w (w.drewN G):=(Kp.refl _ _).drewN _;have J:=h.move D (λ_ _ x=>x) (h.bO.drewN G);have I:=D.below h.bK (λk x=>h.low (Or.inl x));generalize w.drewN G=Y at D J I⊢;clear D h;go_wp2;go_ret;exact⟨rfl,⟨_,_,_,_,_,_,J⟩,I⟩
end
theorem Dh.nil(w:World)(B:Nat):Dh w B ⟨[],[],[]⟩ (.slice none 0 0) (.slice none 0 0) (.slice none 0 0) [] []:=
 ⟨bT _ _ _ _,rfl,bT _ _ _ _,by simp,rfl,bT _ _ _ _,by simp⟩
def vY(w:World)(b:Nat)(D E F G I:Value):World:=
 ((((w.setCell ⟨b,0,none⟩ D).setCell ⟨b,1,none⟩ E).setCell ⟨b,2,none⟩ F).setCell ⟨b,3,none⟩ G).setCell ⟨b,4,none⟩ I
theorem v_{w:World}{b:Nat}{c0 c1 c2 c3 c4:Value}{T:TypeId}(h:w.heap[b]? =some (.cells #[c0,c1,c2,c3,c4] T (0,0)))(D E F G I:Value):
 (vY w b D E F G I).heap[b]? =some (.cells #[D,E,F,G,I] T (0,0)):=by
 unfold vY;rw[ak _ (ak _ (ak _ (ak _ (ak _ h))))];rfl
theorem Ca(w:World)(b:Nat)(D E F G I:Value):Kp (λk=>k=b) w (vY w b D E F G I):=
 ((((((Kp.refl _ _).setCell (by intro _;rfl) _).setCell (by intro _;rfl) _).setCell (by intro _;rfl) _).setCell (by intro _;rfl) _).setCell (by intro _;rfl) _)
section
variable (t:ByteArray) (w:World)
theorem NF:
 Calls prog 42 #[.string t] w λx w'=>∃sv tv bv lt lb,x= .returned (.agg #[.int .i64 (Ch.read t).1,.int .i64 (Ch.read t).2.1,sv,tv,bv])/\Dh w' w.heap.size (Ch.read t).2.2 sv tv bv lt lb/\Below w.heap.size w w':=by
 by_cases J:240<t.size
 ·rw[show Ch.read t=(1,0,⟨[],[],[]⟩)by unfold Ch.read;rw[aq J]]
  have am:(240:Int)<(t.size:Int):=by omega
  go_enter func42,ntmps42
  go_wp2_with fail
  exact bg (v:=.agg #[.int .i64 1,.int .i64 0,.slice none 0 0,.slice none 0 0,.slice none 0 0]) (by simp[results,Tryz.results42,go_sem]) rfl ⟨_,_,_,_,_,rfl,Dh.nil _ _,(Below.refl _ _).alloc (aC _) _⟩
 have am:¬(240:Int)<(t.size:Int):=by omega
 have ht:t.size<=240:=by omega
 have eD:=Dr t
 have H1:Rd ((w.alloc (.cells #[.int .i64 0,.int .i64 0,.slice none 0 0,.slice none 0 0,.slice none 0 0] 87)).alloc (.cells #[.string t,.int .i64 0,.int .i64 0,.int .i64 0,.slice none 0 0,.slice none 0 0,.slice none 0 0,.slice none 0 0] 143)) (w.heap.size+1) (w.heap.size+1) t Ch.r0:=by
  refine⟨.slice none 0 0,.slice none 0 0,.slice none 0 0,.slice none 0 0,[],[],?_,bT _ _ _ _,rfl,bT _ _ _ _,by simp,rfl,bT _ _ _ _,by simp,bT _ _ _ _,aC _⟩;have e:=an (w.alloc (.cells #[.int .i64 0,.int .i64 0,.slice none 0 0,.slice none 0 0,.slice none 0 0] 87)) (.cells #[.string t,.int .i64 0,.int .i64 0,.int .i64 0,.slice none 0 0,.slice none 0 0,.slice none 0 0,.slice none 0 0] 143);rw[World.size_alloc]at e;exact e
 have ad:((w.alloc (.cells #[.int .i64 0,.int .i64 0,.slice none 0 0,.slice none 0 0,.slice none 0 0] 87)).alloc (.cells #[.string t,.int .i64 0,.int .i64 0,.int .i64 0,.slice none 0 0,.slice none 0 0,.slice none 0 0,.slice none 0 0] 143)).heap[w.heap.size]? =some (.cells #[.int .i64 0,.int .i64 0,.slice none 0 0,.slice none 0 0,.slice none 0 0] 87):=by
  rw[cQ _ _ _ (by simp)];exact an _ _
 have B1:Below _ _ ((w.alloc (.cells #[.int .i64 0,.int .i64 0,.slice none 0 0,.slice none 0 0,.slice none 0 0] 87)).alloc (.cells #[.string t,.int .i64 0,.int .i64 0,.int .i64 0,.slice none 0 0,.slice none 0 0,.slice none 0 0,.slice none 0 0] 143)):=((Below.refl _ _).alloc (aC _) _).alloc (by simp) _;have E:=af (Kf (w.heap.size+1) (w.heap.size+1) t ((w.alloc (.cells #[.int .i64 0,.int .i64 0,.slice none 0 0,.slice none 0 0,.slice none 0 0] 87)).alloc (.cells #[.string t,.int .i64 0,.int .i64 0,.int .i64 0,.slice none 0 0,.slice none 0 0,.slice none 0 0,.slice none 0 0] 143)) H1 ht);clear H1
 cases q1:(chart t).1 with
 |false=>
  rw[show Ch.read t=(2,((chart t).2.pos:Int),Ol.mk [] [] [])by unfold Ch.read;rw[ay J];simp[q1]];rw[q1]at E;have HX:=af (ae ad B1);clear ad B1 J q1
  go_enter func42,ntmps42
  go_wp2_with fail
  refine hm E ?_;rintro x w2 ⟨rfl,⟨sv,tv,bv,uv,lt,lb,G⟩,B2⟩;have D:=(B2.block _ (by omega)).trans HX.out.1;have I:=HX.out.2.trans (B2.mono (cJ _));have c1:=G.bO.pos
  have r0:w2.cell? ⟨w.heap.size,0,none⟩=some (.int .i64 0):=by simp[World.cell?,D]
  have r1:w2.cell? ⟨w.heap.size,1,none⟩=some (.int .i64 0):=by simp[World.cell?,D]
  have r2:w2.cell? ⟨w.heap.size,2,none⟩=some (.slice none 0 0):=by simp[World.cell?,D]
  have r3:w2.cell? ⟨w.heap.size,3,none⟩=some (.slice none 0 0):=by simp[World.cell?,D]
  have r4:w2.cell? ⟨w.heap.size,4,none⟩=some (.slice none 0 0):=by simp[World.cell?,D]
  have fr:∀i,w2.frozen? ⟨w.heap.size,i,none⟩=false:=by intro i;simp[World.frozen?,D]
  have uq:=af (ae D (ae G I));clear HX E D G B2 I;go_wp2;obtain⟨D,G,I⟩:=uq.out;have X:=v_ D (.int .i64 2) (.int .i64 ((chart t).2.pos:Int)) (.slice none 0 0) (.slice none 0 0) (.slice none 0 0);have KW:=Ca w2 w.heap.size (.int .i64 2) (.int .i64 ((chart t).2.pos:Int)) (.slice none 0 0) (.slice none 0 0) (.slice none 0 0)
  change bodyPost _ _ _ _ _ (vY w2 w.heap.size (.int .i64 2) (.int .i64 ((chart t).2.pos:Int)) (.slice none 0 0) (.slice none 0 0) (.slice none 0 0))
  generalize vY w2 w.heap.size (.int .i64 2) (.int .i64 ((chart t).2.pos:Int)) (.slice none 0 0) (.slice none 0 0) (.slice none 0 0)=wz at X KW⊢
  have z0:wz.cell? ⟨w.heap.size,0,none⟩=some (.int .i64 2):=by simp[World.cell?,X]
  have z1:wz.cell? ⟨w.heap.size,1,none⟩=some (.int .i64 ((chart t).2.pos:Int)):=by simp[World.cell?,X]
  have z2:wz.cell? ⟨w.heap.size,2,none⟩=some (.slice none 0 0):=by simp[World.cell?,X]
  have z3:wz.cell? ⟨w.heap.size,3,none⟩=some (.slice none 0 0):=by simp[World.cell?,X]
  have z4:wz.cell? ⟨w.heap.size,4,none⟩=some (.slice none 0 0):=by simp[World.cell?,X]
  have BW:=I.trans (KW.below (by have:=I.size;omega) (λk x=>by omega));refine bg (v:=.agg #[.int .i64 2,.int .i64 ((chart t).2.pos:Int),.slice none 0 0,.slice none 0 0,.slice none 0 0]) (by simp[results,Tryz.results42,go_sem,z0,z1,z2,z3,z4]) rfl ?_;exact⟨_,_,_,_,_,rfl,Dh.nil _ _,BW⟩
 |true=>?_
 obtain⟨⟨d1,d2,d3,d4⟩,d5⟩:=eD;have HX:=af (ae ad B1);rw[q1]at E;clear ad B1
 cases q2:(fa (chart t).2.ai (chart t).2.cN).1==0 with
 |false=>
  rw[show Ch.read t=((fa (chart t).2.ai (chart t).2.cN).1,(fa (chart t).2.ai (chart t).2.cN).2,Ol.mk [] [] [])by unfold Ch.read;rw[ay J];simp[q1,q2]];have q2:=af q2;clear q1 J
  go_enter func42,ntmps42
  go_wp2_with fail
  refine hm E ?_;rintro x w2 ⟨rfl,⟨sv,tv,bv,uv,lt,lb,G⟩,B2⟩;have D:=(B2.block _ (by omega)).trans HX.out.1;have I:=HX.out.2.trans (B2.mono (cJ _));have c7:=G.bO.c7;have uq:=af (ae D (ae G I));clear HX E D G B2 I
  go_wp2_with fail
  obtain⟨D,G,I⟩:=uq.out;have EJ:=AX (w.heap.size+1) 2 w2 (chart t).2.ai uv (chart t).2.cN _ G.cN (by omega) ⟨_,_,G.bO.c4,G.ai⟩ (by omega);refine bu EJ ?_;rintro x O ⟨rfl,K3⟩;clear EJ uq c7;have aa:=K3.at_ D (λx=>x);have U:=G.move K3 (λ_ _ x=>x.elim) (G.bO.az K3 (λx=>x));have B4:=I.trans (K3.below (by have:=I.size;omega) (λk x=>x.elim));clear D G I K3;generalize aj:fa (chart t).2.ai (chart t).2.cN=jj at q2⊢;have HJ:=af aj;clear aj;obtain⟨Y,Z⟩:=jj
  have F:∀o,(O.alloc o).heap[w.heap.size]? =some (.cells #[.int .i64 0,.int .i64 0,.slice none 0 0,.slice none 0 0,.slice none 0 0] 87):=λo=>(cQ _ _ _ (aR aa)).trans aa
  have r0:∀o,(O.alloc o).cell? ⟨w.heap.size,0,none⟩=some (.int .i64 0):=by intro o;simp[World.cell?,F]
  have r1:∀o,(O.alloc o).cell? ⟨w.heap.size,1,none⟩=some (.int .i64 0):=by intro o;simp[World.cell?,F]
  have r2:∀o,(O.alloc o).cell? ⟨w.heap.size,2,none⟩=some (.slice none 0 0):=by intro o;simp[World.cell?,F]
  have r3:∀o,(O.alloc o).cell? ⟨w.heap.size,3,none⟩=some (.slice none 0 0):=by intro o;simp[World.cell?,F]
  have r4:∀o,(O.alloc o).cell? ⟨w.heap.size,4,none⟩=some (.slice none 0 0):=by intro o;simp[World.cell?,F]
  have fr:∀o i,(O.alloc o).frozen? ⟨w.heap.size,i,none⟩=false:=by intro o i;simp[World.frozen?,F]
  have qn:(Y !=0)=true:=by have:=q2.out;simpa using this
  have Gb:=af (ae F (ae U B4));clear aa F U B4 q2;go_wp2;obtain⟨F,U,B4⟩:=Gb.out;have D:=F (.cells #[.int .i64 Y,.int .i64 Z] 145);have I:=B4.alloc (by have:=B4.size;omega) (.cells #[.int .i64 Y,.int .i64 Z] 145);have X:=v_ D (.int .i64 Y) (.int .i64 Z) (.slice none 0 0) (.slice none 0 0) (.slice none 0 0);have KW:=Ca (O.alloc (.cells #[.int .i64 Y,.int .i64 Z] 145)) w.heap.size (.int .i64 Y) (.int .i64 Z) (.slice none 0 0) (.slice none 0 0) (.slice none 0 0)
  change bodyPost _ _ _ _ _ (vY (O.alloc (.cells #[.int .i64 Y,.int .i64 Z] 145)) w.heap.size (.int .i64 Y) (.int .i64 Z) (.slice none 0 0) (.slice none 0 0) (.slice none 0 0))
  generalize vY (O.alloc (.cells #[.int .i64 Y,.int .i64 Z] 145)) w.heap.size (.int .i64 Y) (.int .i64 Z) (.slice none 0 0) (.slice none 0 0) (.slice none 0 0)=wz at X KW⊢
  have z0:wz.cell? ⟨w.heap.size,0,none⟩=some (.int .i64 Y):=by simp[World.cell?,X]
  have z1:wz.cell? ⟨w.heap.size,1,none⟩=some (.int .i64 Z):=by simp[World.cell?,X]
  have z2:wz.cell? ⟨w.heap.size,2,none⟩=some (.slice none 0 0):=by simp[World.cell?,X]
  have z3:wz.cell? ⟨w.heap.size,3,none⟩=some (.slice none 0 0):=by simp[World.cell?,X]
  have z4:wz.cell? ⟨w.heap.size,4,none⟩=some (.slice none 0 0):=by simp[World.cell?,X]
  have BW:=I.trans (KW.below (by have:=I.size;omega) (λk x=>by omega));refine bg (v:=.agg #[.int .i64 Y,.int .i64 Z,.slice none 0 0,.slice none 0 0,.slice none 0 0]) (by simp[results,Tryz.results42,go_sem,z0,z1,z2,z3,z4]) rfl ?_;rw[HJ.out];exact⟨_,_,_,_,_,rfl,Dh.nil _ _,BW⟩
 |true=>?_
 rw[show Ch.read t=(0,0,Ol.mk (chart t).2.ai (chart t).2.cW (chart t).2.eR)by unfold Ch.read;rw[ay J];simp[q1,q2]];have q2:=af q2;clear q1 J
 go_enter func42,ntmps42
 go_wp2_with fail
 refine hm E ?_;rintro x w2 ⟨rfl,⟨sv,tv,bv,uv,lt,lb,G⟩,B2⟩;have D:=(B2.block _ (by omega)).trans HX.out.1;have I:=HX.out.2.trans (B2.mono (cJ _));have c7:=G.bO.c7;have uq:=af (ae D (ae G I));clear HX E D G B2 I
 go_wp2_with fail
 obtain⟨D,G,I⟩:=uq.out;have EJ:=AX (w.heap.size+1) 2 w2 (chart t).2.ai uv (chart t).2.cN _ G.cN (by omega) ⟨_,_,G.bO.c4,G.ai⟩ (by omega);refine bu EJ ?_;rintro x O ⟨rfl,K3⟩;clear EJ uq c7;have aa:=K3.at_ D (λx=>x);have U:=G.move K3 (λ_ _ x=>x.elim) (G.bO.az K3 (λx=>x));have B4:=I.trans (K3.below (by have:=I.size;omega) (λk x=>x.elim));clear D G I K3;generalize fa (chart t).2.ai (chart t).2.cN=jj at q2⊢;obtain⟨Y,Z⟩:=jj
 have F:∀o,(O.alloc o).heap[w.heap.size]? =some (.cells #[.int .i64 0,.int .i64 0,.slice none 0 0,.slice none 0 0,.slice none 0 0] 87):=λo=>(cQ _ _ _ (aR aa)).trans aa
 have r0:∀o,(O.alloc o).cell? ⟨w.heap.size,0,none⟩=some (.int .i64 0):=by intro o;simp[World.cell?,F]
 have r1:∀o,(O.alloc o).cell? ⟨w.heap.size,1,none⟩=some (.int .i64 0):=by intro o;simp[World.cell?,F]
 have r2:∀o,(O.alloc o).cell? ⟨w.heap.size,2,none⟩=some (.slice none 0 0):=by intro o;simp[World.cell?,F]
 have r3:∀o,(O.alloc o).cell? ⟨w.heap.size,3,none⟩=some (.slice none 0 0):=by intro o;simp[World.cell?,F]
 have r4:∀o,(O.alloc o).cell? ⟨w.heap.size,4,none⟩=some (.slice none 0 0):=by intro o;simp[World.cell?,F]
 have fr:∀o i,(O.alloc o).frozen? ⟨w.heap.size,i,none⟩=false:=by intro o i;simp[World.frozen?,F]
 have qn:(Y !=0)=false:=by have:=q2.out;simpa using this
 obtain⟨sa,sb,sc,rfl⟩:=gL U.ai;obtain⟨ta,tb,tc,rfl⟩:=gL U.cW;obtain⟨ba,bb,bc,rfl⟩:=gL U.eR
 have m2:=λo=>(U.bO.alloc o).c2
 have m3:=λo=>(U.bO.alloc o).c3
 have m4:=λo=>(U.bO.alloc o).c4
 have m5:=λo=>(U.bO.alloc o).c5
 have m6:=λo=>(U.bO.alloc o).c6
 have Gb:=af (ae F (ae U B4));clear aa F U B4 q2;go_wp2;obtain⟨F,U,B4⟩:=Gb.out;have D:=F (.cells #[.int .i64 Y,.int .i64 Z] 145);have I:=B4.alloc (by have:=B4.size;omega) (.cells #[.int .i64 Y,.int .i64 Z] 145);have X:=v_ D (.int .i64 0) (.int .i64 0) (.slice sa sb sc) (.slice ta tb tc) (.slice ba bb bc);have KW:=Ca (O.alloc (.cells #[.int .i64 Y,.int .i64 Z] 145)) w.heap.size (.int .i64 0) (.int .i64 0) (.slice sa sb sc) (.slice ta tb tc) (.slice ba bb bc)
 change bodyPost _ _ _ _ _ (vY (O.alloc (.cells #[.int .i64 Y,.int .i64 Z] 145)) w.heap.size (.int .i64 0) (.int .i64 0) (.slice sa sb sc) (.slice ta tb tc) (.slice ba bb bc))
 generalize vY (O.alloc (.cells #[.int .i64 Y,.int .i64 Z] 145)) w.heap.size (.int .i64 0) (.int .i64 0) (.slice sa sb sc) (.slice ta tb tc) (.slice ba bb bc)=wz at X KW⊢
 have z0:wz.cell? ⟨w.heap.size,0,none⟩=some (.int .i64 0):=by simp[World.cell?,X]
 have z1:wz.cell? ⟨w.heap.size,1,none⟩=some (.int .i64 0):=by simp[World.cell?,X]
 have z2:wz.cell? ⟨w.heap.size,2,none⟩=some (.slice sa sb sc):=by simp[World.cell?,X]
 have z3:wz.cell? ⟨w.heap.size,3,none⟩=some (.slice ta tb tc):=by simp[World.cell?,X]
 have z4:wz.cell? ⟨w.heap.size,4,none⟩=some (.slice ba bb bc):=by simp[World.cell?,X]
 have BW:=I.trans (KW.below (by have:=I.size;omega) (λk x=>by omega));refine bg (v:=.agg #[.int .i64 0,.int .i64 0,.slice sa sb sc,.slice ta tb tc,.slice ba bb bc]) (by simp[results,Tryz.results42,go_sem,z0,z1,z2,z3,z4]) rfl ?_;have KZ:=((Kp.refl _ _).alloc (.cells #[.int .i64 Y,.int .i64 Z] 145)).trans KW
 have hS:∀{base e size v n xs},O.ownsRow base e size v n xs->w.heap.size+1<=base->∀i,v.ownBlock=some i->¬i=w.heap.size:=by
  intro base e size v n xs ho hb i hi he;have:=(ho.lt i hi).1;omega
 have ok:∀{e size v n xs},O.ownsRow (w.heap.size+1) e size v n xs->wz.ownsRow w.heap.size e size v n xs:=λho=>dY (KZ.owns ho (hS ho (aC _))) (cJ _)
 exact⟨_,_,_,lt,lb,rfl,⟨ok U.ai,U.F9,ok U.cW,λx hx=>ok (U.j_ x hx),U.I8,ok U.eR,λx hx=>ok (U.rY x hx)⟩,BW⟩
end
theorem NG:(prog.info? 87).map (·.size)=some 5:=by kernel_rfl
theorem Kp.setRow{S:Nat->Prop}{a w:World}(h:Kp S a w){g:Nat}(E:g<a.heap.size->S g)(D:Array Value):Kp S a (w.setRow g D):=
 h.trans' (S':=λk=>k=g) ⟨rfl,rfl,rfl,by simp,λk _ hn=>cG _ _ _ _ hn⟩ (λi hi e=>by subst e;exact E hi)
theorem Kg{w w':World}(b:Below w.heap.size w w'):Kp (λ_=>False) w w':=⟨b.os,b.tape,b.output,b.size,λk hk _=>b.block k hk⟩
def Nl(e f:Int)(sv tv bv:Value):Array Value:=#[.int .i64 e,.int .i64 f,sv,tv,bv]
theorem WL{e f:Int}{sv tv bv:Value}(E:sv.oneCell'=true)(F:tv.oneCell'=true)(G:bv.oneCell'=true):(Nl e f sv tv bv).all (λx=>x.oneCell')=true:=by
 apply gN.2;intro x D;simp only[Nl,lZ,dP,hY,h_]at D
 rcases D with rfl|rfl|rfl|rfl|rfl<;>first|rfl|assumption
theorem qV{w:World}{base:Nat}{e:TypeId}{size:Nat}{v:Value}{n:Nat}{xs:List Value}(h:w.ownsRow base e size v n xs):v.oneCell'=true:=by
 obtain⟨a,m,c,rfl⟩:=gL h;rfl
section
variable (ob oo:Nat) (w:World) (ss:List St)
theorem iR(i:Int)(h:tV w ob oo ss)(_hl:ss.length<=1000):
 Calls prog 161 #[.pointer (some ⟨ob,oo,none⟩),.int .i64 i] w λx w'=>x= .returned (.int .i64 (aN ss i))/\w'=w:=by
 unfold aN
 cases hs:rQ ss i with
 |none=>
  obtain⟨X,cap,c2⟩:=h.len
  rcases v7 hs with E|⟨Y,E⟩
  ·clear hs h
   go_enter func161,ntmps161
   go_wp2;go_ret;exact⟨rfl,rfl⟩
  have F:decide (i<0)=false:=by simp;omega
  clear hs h
  go_enter func161,ntmps161
  go_wp2;go_ret;exact⟨rfl,rfl⟩
 |some s=>?_
 obtain⟨k,rfl,hk,G⟩:=j1 hs;obtain⟨g,cap,c2,I,J,O,U⟩:=h.at_ hk
 have F:decide ((k:Int)<0)=false:=by simp
 have D:(k:Int)<(ss.length:Int):=by omega
 clear hs hk h
 go_enter func161,ntmps161
 go_wp2;go_ret;exact⟨rfl,rfl⟩
end
namespace Ch
def bit(l:List Bool)(k:Nat):Bool:=l.getD k false
def has(l:List Bool)(i:Int):Bool:=match i with| .ofNat k=>bit l k| .negSucc _=>false
def sq(l:List Bool)(i:Int)(v:Bool):List Bool:=match i with| .ofNat k=>l.set k v| .negSucc _=>l
def join(l m:List Bool):List Bool:=(List.range 16).map λk=>bit l k||bit m k
def meets(l m:List Bool):Bool:=(List.range 16).any λk=>bit l k&&bit m k
theorem fC(l:List Bool)(k:Nat):has l (k:Int)=bit l k:=rfl
theorem Cb{l:List Bool}{k:Nat}(h:l.length<=k):bit l k=false:=by simp[bit,List.getElem?_eq_none h]
theorem I_{l:List Bool}(D:l.length=16){i:Int}(h:i<0\/16<=i):has l i=false:=by
 cases i with
 |ofNat k=>exact Cb (by simp at h;omega)
 |negSucc k=>rfl
theorem va{l:List Bool}(D:l.length=16){i:Int}(v:Bool)(h:i<0\/16<=i):sq l i v=l:=by
 cases i with
 |ofNat k=>exact List.set_eq_of_length_le (by simp at h;omega)
 |negSucc k=>rfl
theorem od(l:List Bool)(i:Int)(v:Bool):(sq l i v).length=l.length:=by
 cases i with
 |ofNat k=>grind[sq]
 |negSucc k=>rfl
end Ch
def kP(w:World)(b:Nat)(pre:List Value)(l:List Bool)(post:List Value)(T:TypeId):Prop:=
 w.heap[b]? =some (.cells (pre++l.map Value.bool++post).toArray T (0,0))
section
variable {w:World} {b:Nat} {pre:List Value} {l:List Bool} {post:List Value} {T:TypeId}
theorem kP.cell(h:kP w b pre l post T)(D:l.length=16){k:Nat}(hk:k<16):w.cell? ⟨b,pre.length+k,none⟩=some (.bool (Ch.bit l k)):=by
 unfold kP at h
 have e:(pre++l.map Value.bool++post)[pre.length+k]? =some (.bool (Ch.bit l k)):=by
  grind[Ch.bit]
 simp only[World.cell?,h];simp_all
theorem kP.free(h:kP w b pre l post T)(i:Nat):w.frozen? ⟨b,i,none⟩=false:=by unfold kP at h;simp[World.frozen?,h]
theorem kP.set(h:kP w b pre l post T)(D:l.length=16){k:Nat}(hk:k<16)(v:Bool):kP (w.setCell ⟨b,pre.length+k,none⟩ (.bool v)) b pre (l.set k v) post T:=by
 unfold kP at*;rw[ak _ h]
 simp_all
theorem kP.az{S:Nat->Prop}{w':World}(h:kP w b pre l post T)(k:Kp S w w')(hs:¬S b):kP w' b pre l post T:=Kp.at_ k h hs
theorem kP.lt(h:kP w b pre l post T):b<w.heap.size:=aR h
end
section
variable (w:World) (b o:Nat) (pre:List Value) (l:List Bool) (post:List Value) (T:TypeId)
theorem lW(i:Int)(h:kP w b pre l post T)(E:l.length=16)(G:pre.length=o):
 Calls prog 73 #[.pointer (some ⟨b,o,none⟩),.int .i64 i] w λx w'=>x= .returned (.bool (Ch.has l i))/\w'=w:=by
 subst G
 by_cases I:0<=i
 ·obtain⟨k,rfl⟩:∃k:Nat,i=(k:Int):=⟨i.toNat,by omega⟩
  by_cases F:k<16
  ·have c:=h.cell E F
   have D:(k:Int)<16:=by omega
   rw[fC];clear h
   go_enter func73,ntmps73
   go_wp2;go_ret;exact⟨rfl,rfl⟩
  have D:decide ((k:Int)<16)=false:=by simp;omega
  rw[I_ E (Or.inr (by omega))];clear h
  go_enter func73,ntmps73
  go_wp2;go_ret;exact⟨rfl,rfl⟩
 have J:decide (0<=i)=false:=by simp;omega
 rw[I_ E (Or.inl (by omega))];clear h
 go_enter func73,ntmps73
 go_wp2;go_ret;exact⟨rfl,rfl⟩
theorem Ja(i:Int)(h:kP w b pre l post T)(D:l.length=16)(G:pre.length=o):
 Calls prog 166 #[.pointer (some ⟨b,o,none⟩),.int .i64 i] w λx w'=>x= .returned (.tuple #[])/\kP w' b pre (sq l i true) post T/\Kp (λk=>k=b) w w':=by
 subst G
 by_cases I:0<=i
 ·obtain⟨k,rfl⟩:∃k:Nat,i=(k:Int):=⟨i.toNat,by omega⟩
  by_cases F:k<16
  ·have c:=h.cell D F
   have f:=h.free (pre.length+k)
   have E:(k:Int)<16:=by omega
   have H:=af h;clear h
   go_enter func166,ntmps166
   go_wp2
   go_end0
   exact⟨rfl,H.out.set D F true,(Kp.refl _ _).setCell (by intro _;rfl) _⟩
  have E:decide ((k:Int)<16)=false:=by simp;omega
  rw[va D _ (Or.inr (by omega))];have H:=af h;clear h
  go_enter func166,ntmps166
  go_wp2
  go_end0
  exact⟨rfl,H.out,Kp.refl _ _⟩
 have J:decide (0<=i)=false:=by simp;omega
 rw[va D _ (Or.inl (by omega))];have H:=af h;clear h
 go_enter func166,ntmps166
 go_wp2
 go_end0
 exact⟨rfl,H.out,Kp.refl _ _⟩
theorem NH(i:Int)(h:kP w b pre l post T)(D:l.length=16)(G:pre.length=o):
 Calls prog 181 #[.pointer (some ⟨b,o,none⟩),.int .i64 i] w λx w'=>x= .returned (.tuple #[])/\kP w' b pre (sq l i false) post T/\Kp (λk=>k=b) w w':=by
 subst G
 by_cases I:0<=i
 ·obtain⟨k,rfl⟩:∃k:Nat,i=(k:Int):=⟨i.toNat,by omega⟩
  by_cases F:k<16
  ·have c:=h.cell D F
   have f:=h.free (pre.length+k)
   have E:(k:Int)<16:=by omega
   have H:=af h;clear h
   go_enter func181,ntmps181
   go_wp2
   go_end0
   exact⟨rfl,H.out.set D F false,(Kp.refl _ _).setCell (by intro _;rfl) _⟩
  have E:decide ((k:Int)<16)=false:=by simp;omega
  rw[va D _ (Or.inr (by omega))];have H:=af h;clear h
  go_enter func181,ntmps181
  go_wp2
  go_end0
  exact⟨rfl,H.out,Kp.refl _ _⟩
 have J:decide (0<=i)=false:=by simp;omega
 rw[va D _ (Or.inl (by omega))];have H:=af h;clear h
 go_enter func181,ntmps181
 go_wp2
 go_end0
 exact⟨rfl,H.out,Kp.refl _ _⟩
theorem Ch.yh(l m:List Bool)(k:Nat):((List.range (k+1)).any λj=>Ch.bit l j&&Ch.bit m j)=(((List.range k).any λj=>Ch.bit l j&&Ch.bit m j)||(Ch.bit l k&&Ch.bit m k)):=by
 grind
theorem Ch.Kh(l m:List Bool)(k:Nat)(hk:k<16)(h:(Ch.bit l k&&Ch.bit m k)=true):Ch.meets l m=true:=by
 grind[Ch.meets]
theorem we(X o':Nat)(pre':List Value)(D:List Bool)(post':List Value)(T':TypeId)(h:kP w b pre l post T)(hl:l.length=16)(ho:pre.length=o)
 (I:kP w X pre' D post' T') (O:D.length=16) (U:pre'.length=o'):
 Calls prog 177 #[.pointer (some ⟨b,o,none⟩),.pointer (some ⟨X,o',none⟩)] w λx w'=>x= .returned (.bool (Ch.meets l D))/\w'=w:=by
 subst ho U
 go_enter func177,ntmps177
 go_wp2_with fail
 go_loop [5] (λi=>∃k:Nat,i= .int .i64 k/\k<=16/\Hid (((List.range k).any λj=>Ch.bit l j&&Ch.bit D j)=false)) (λi=>16-(intOf i).toNat)
 case atStart=>exact⟨0,rfl,aG _,af rfl⟩
 case round=>
  obtain⟨k,rfl,hk,E⟩:=hrel
  by_cases G:k<16
  ·have c:=h.cell hl G
   have Y:=I.cell O G
   have Z:(k:Int)<16:=by omega
   cases q:Ch.bit l k with
   |false=>
    have F:=af (show((List.range (k+1)).any λj=>Ch.bit l j&&Ch.bit D j)=false by rw[yh,E.out,q];rfl);rw[q]at c;clear h I E;go_wp2
    go_round
    case rel=>exact⟨k+1,by go_num,by omega,F⟩
    case measure=>simp[intOf];omega
   |true=>?_
   rw[q]at c
   cases J:Ch.bit D k with
   |false=>
    have F:=af (show((List.range (k+1)).any λj=>Ch.bit l j&&Ch.bit D j)=false by rw[yh,E.out,q,J];rfl);rw[J]at Y;clear h I E;go_wp2
    go_round
    case rel=>exact⟨k+1,by go_num,by omega,F⟩
    case measure=>simp[intOf];omega
   |true=>?_
   have F:=af (Kh l D k G (by rw[q,J];rfl));rw[J]at Y;clear h I E;go_wp2;go_ret;exact⟨by rw[F.out];rfl,rfl⟩
  have hd:¬(k:Int)<16:=by omega
  obtain rfl:k=16:=by omega
  have F:=af (show Ch.meets l D=false from E.out);clear h I E;go_wp2;go_ret;exact⟨by rw[F.out];rfl,rfl⟩
end
namespace Ch
def mR(l m:List Bool)(k:Nat):List Bool:=(List.range 16).map λj=>if j<k then bit l j||bit m j else bit l j
theorem wg(l m:List Bool)(k:Nat):(mR l m k).length=16:=by simp[mR]
theorem Gz{l:List Bool}(m:List Bool)(D:l.length=16):mR l m 0=l:=by
 apply eL;grind[mR,bit]
theorem Ki(l m:List Bool):mR l m 16=join l m:=by
 unfold mR join;simp_all
theorem Kj{l m:List Bool}{k:Nat}(hk:k<16):bit (mR l m k) k=bit l k:=by simp[mR,bit,hk]
theorem yi{l m:List Bool}{k:Nat}(hk:k<16):mR l m (k+1)=(mR l m k).set k (bit l k||bit m k):=by
 apply eL;grind[mR,wg]
theorem vc(l m:List Bool):(join l m).length=16:=by simp[join]
end Ch
section
variable (w:World) (b o:Nat) (pre:List Value) (l:List Bool) (post:List Value) (T:TypeId)
theorem NI(O o':Nat)(pre':List Value)(F:List Bool)(post':List Value)(T':TypeId)(h:kP w b pre l post T)(hl:l.length=16)(ho:pre.length=o)
 (U:kP w O pre' F post' T') (X:F.length=16) (Y:pre'.length=o') (hb:O≠b):
 Calls prog 179 #[.pointer (some ⟨b,o,none⟩),.pointer (some ⟨O,o',none⟩)] w λx w'=>x= .returned (.tuple #[])/\kP w' b pre (Ch.join l F) post T/\Kp (λk=>k=b) w w':=by
 subst ho Y
 go_enter func179,ntmps179
 go_wp2_with fail
 go_loopw [4] (λi wr=>∃k:Nat,i= .int .i64 k/\k<=16/\kP wr b pre (mR l F k) post T/\Kp (λk=>k=b) w wr) (λi _=>16-(intOf i).toNat)
 case atStart=>exact⟨0,rfl,aG _,by rw[Gz _ hl];exact h,Kp.refl _ _⟩
 case round=>
  obtain⟨k,rfl,hk,E,G⟩:=hrel
  by_cases D:k<16
  ·have c:=E.cell (wg _ _ _) D
   rw[Kj D]at c;have f:=E.free (pre.length+k);have c':=(U.az G hb).cell X D
   have Z:(k:Int)<16:=by omega
   have hs:=λv=>E.set (wg _ _ _) D v
   have I:=af (ae hs G);clear h U E hs G
   cases q:Ch.bit l k with
   |true=>
    rw[q]at c;have J:=af (show mR l F (k+1)=(mR l F k).set k true by rw[yi D,q];rfl);go_wp2
    go_region
    all_goals
     go_wp2
     go_roundw
     case rel=>exact⟨k+1,by go_num,by omega,by rw[J.out];exact I.out.1 true,(I.out.2.drew).setCell (by intro _;rfl) _⟩
     case measure=>simp[intOf];omega
   |false=>?_
   rw[q]at c;have J:=af (show mR l F (k+1)=(mR l F k).set k (Ch.bit F k)by rw[yi D,q];rfl);go_wp2
   go_region
   all_goals
    go_wp2
    go_roundw
    case rel=>exact⟨k+1,by go_num,by omega,by rw[J.out];exact I.out.1 _,(I.out.2.drew).setCell (by intro _;rfl) _⟩
    case measure=>simp[intOf];omega
  have hd:¬(k:Int)<16:=by omega
  obtain rfl:k=16:=by omega
  have I:=af (ae E G);clear h U E G;go_wp2
  go_end0
  obtain⟨E,G⟩:=I.out;rw[Ki]at E;exact⟨rfl,E,G⟩
end
namespace Ch
structure Sd where
 act:List Bool
 cd:List Int
 tm:ByteArray
 x:Int
 y:Int
 z:Int
def Sd.Wf(s:Sd):Prop:=s.act.length=16/\s.cd.length=16
def mT(n:Int):Bool:=decide (-99<=n)&&decide (n<=99)
def var(s:Sd)(c:Int):Int:=if c==120 then s.x else if c==121 then s.y else s.z
def gX(s:Sd)(c n:Int):Sd:=if c==120 then {s with x:=n}else if c==121 then {s with y:=n}else {s with z:=n}
end Ch
def bZ(l:List Int):List Value:=l.map (Value.int .u8)
def cX(s:Sd):List Value:=bZ s.cd++[.string s.tm,.int .i64 s.x,.int .i64 s.y,.int .i64 s.z]
def ey(w:World)(b:Nat)(pre:List Value)(s:Sd)(post:List Value)(T:TypeId):Prop:=kP w b pre s.act (cX s++post) T
section
variable {w:World} {b:Nat} {pre:List Value} {s:Sd} {post:List Value} {T:TypeId}
theorem ey.at_(h:ey w b pre s post T)(hw:s.Wf)(k:Nat):w.cell? ⟨b,pre.length+(16+k),none⟩=(cX s++post)[k]?:=by
 unfold ey kP at h;simp only[World.cell?,h];simp only[Option.isSome_none,bp,bj,gf];rw[kr (by simp[hw.1])]
 congr 1
 simp[hw.1];omega
theorem ey.GA(h:ey w b pre s post T)(hw:s.Wf)(k:Nat)(v:Value):kP (w.setCell ⟨b,pre.length+(16+k),none⟩ v) b pre s.act ((cX s++post).set k v) T:=by
 unfold ey kP at*;rw[ak _ h]
 congr 2
 simp only[List.setIfInBounds_toArray];rw[List.set_append_right _ _ (by simp[hw.1])];rw[show pre.length+(16+k)-(pre++List.map Value.bool s.act).length=k by simp[hw.1];omega]
theorem ey.free(h:ey w b pre s post T)(i:Nat):w.frozen? ⟨b,i,none⟩=false:=kP.free h i
theorem ey.az{S:Nat->Prop}{w':World}(h:ey w b pre s post T)(k:Kp S w w')(hs:¬S b):ey w' b pre s post T:=Kp.at_ k h hs
theorem ey.lt(h:ey w b pre s post T):b<w.heap.size:=aR h
theorem jN(hw:s.Wf):(bZ s.cd).length=16:=by simp[bZ,hw.2]
theorem ey.tm(h:ey w b pre s post T)(hw:s.Wf):w.cell? ⟨b,pre.length+32,none⟩=some (.string s.tm):=by
 rw[show pre.length+32=pre.length+(16+16)by omega,h.at_ hw 16,cX,iY,kr (by simp[jN hw])];grind[jN]
theorem ey.cx(h:ey w b pre s post T)(hw:s.Wf):w.cell? ⟨b,pre.length+33,none⟩=some (.int .i64 s.x):=by
 rw[show pre.length+33=pre.length+(16+17)by omega,h.at_ hw 17,cX,iY,kr (by simp[jN hw])];grind[jN]
theorem ey.cy(h:ey w b pre s post T)(hw:s.Wf):w.cell? ⟨b,pre.length+34,none⟩=some (.int .i64 s.y):=by
 rw[show pre.length+34=pre.length+(16+18)by omega,h.at_ hw 18,cX,iY,kr (by simp[jN hw])];grind[jN]
theorem ey.cz(h:ey w b pre s post T)(hw:s.Wf):w.cell? ⟨b,pre.length+35,none⟩=some (.int .i64 s.z):=by
 rw[show pre.length+35=pre.length+(16+19)by omega,h.at_ hw 19,cX,iY,kr (by simp[jN hw])];grind[jN]
theorem ey.cd(h:ey w b pre s post T)(hw:s.Wf){k:Nat}(hk:k<16):w.cell? ⟨b,pre.length+16+k,none⟩=some (.int .u8 (s.cd.getD k 0)):=by
 rw[show pre.length+16+k=pre.length+(16+k)by omega,h.at_ hw k,cX,iY,nU (by simp[jN hw,hk])];simp[bZ,show k<s.cd.length by rw[hw.2];exact hk]
theorem Cc(hw:s.Wf)(j:Nat)(v:Value):(cX s++post).set (16+j) v=bZ s.cd++([Value.string s.tm,Value.int .i64 s.x,Value.int .i64 s.y,Value.int .i64 s.z]++post).set j v:=by
 grind[cX,jN]
theorem ey.Jb(h:ey w b pre s post T)(hw:s.Wf)(v:ByteArray):ey (w.setCell ⟨b,pre.length+32,none⟩ (.string v)) b pre {s with tm:=v} post T:=by
 have:=h.GA hw 16 (.string v);grind[Cc,ey,cX]
theorem ey.NJ(h:ey w b pre s post T)(hw:s.Wf)(v:Int):ey (w.setCell ⟨b,pre.length+33,none⟩ (.int .i64 v)) b pre {s with x:=v} post T:=by
 have:=h.GA hw 17 (.int .i64 v);grind[Cc,ey,cX]
theorem ey.NK(h:ey w b pre s post T)(hw:s.Wf)(v:Int):ey (w.setCell ⟨b,pre.length+34,none⟩ (.int .i64 v)) b pre {s with y:=v} post T:=by
 have:=h.GA hw 18 (.int .i64 v);grind[Cc,ey,cX]
theorem ey.NL(h:ey w b pre s post T)(hw:s.Wf)(v:Int):ey (w.setCell ⟨b,pre.length+35,none⟩ (.int .i64 v)) b pre {s with z:=v} post T:=by
 have:=h.GA hw 19 (.int .i64 v);grind[Cc,ey,cX]
theorem ey.QR(h:ey w b pre s post T)(hw:s.Wf){k:Nat}(hk:k<16)(v:Int):ey (w.setCell ⟨b,pre.length+16+k,none⟩ (.int .u8 v)) b pre {s with cd:=s.cd.set k v} post T:=by
 have:=h.GA hw k (.int .u8 v);rw[cX,iY,List.set_append_left _ _ (by simp[jN hw,hk])]at this;rw[show pre.length+16+k=pre.length+(16+k)by omega];simp_all[ey,cX,bZ]
end
section
variable (w:World) (b o:Nat) (pre:List Value) (s:Sd) (post:List Value) (T:TypeId)
theorem nt(n:Int):
 Calls prog 128 #[.int .i64 n] w λx w'=>x= .returned (.bool (mT n))/\w'=w:=by
 by_cases D: -99<=n
 ·by_cases E:n<=99
  ·have H:Hid (mT n=true):=by simp[Hid,mT,D,E]
   go_enter func128,ntmps128
   go_wp2;go_ret;exact⟨by rw[H.out];rfl,rfl⟩
  have H:Hid (mT n=false):=by simp[Hid,mT,E]
  go_enter func128,ntmps128
  go_wp2;go_ret;exact⟨by rw[H.out];rfl,rfl⟩
 have H:Hid (mT n=false):=by simp[Hid,mT,D]
 go_enter func128,ntmps128
 go_wp2;go_ret;exact⟨by rw[H.out];rfl,rfl⟩
theorem qW(c:Int)(h:ey w b pre s post T)(hw:s.Wf)(F:pre.length=o):
 Calls prog 257 #[.pointer (some ⟨b,o,none⟩),.int .u8 c] w λx w'=>x= .returned (.int .i64 (Ch.var s c))/\w'=w:=by
 subst F;have c1:=h.cx hw;have c2:=h.cy hw;have c3:=h.cz hw;clear h
 cases D:c==120 with
 |true=>
  have H:=af (show Ch.var s c=s.x by simp[Ch.var,D])
  go_enter func257,ntmps257
  go_wp2;go_ret;exact⟨by rw[H.out];rfl,rfl⟩
 |false=>?_
 cases E:c==121 with
 |true=>
  have H:=af (show Ch.var s c=s.y by simp[Ch.var,D,E])
  go_enter func257,ntmps257
  go_wp2;go_ret;exact⟨by rw[H.out];rfl,rfl⟩
 |false=>?_
 have H:=af (show Ch.var s c=s.z by simp[Ch.var,D,E])
 go_enter func257,ntmps257
 go_wp2;go_ret;exact⟨by rw[H.out];rfl,rfl⟩
theorem mG(c n:Int)(h:ey w b pre s post T)(hw:s.Wf)(O:pre.length=o):
 Calls prog 258 #[.pointer (some ⟨b,o,none⟩),.int .u8 c,.int .i64 n] w λx w'=>x= .returned (.bool (mT n))/\ey w' b pre (if mT n then gX s c n else s) post T/\Kp (λk=>k=b) w w':=by
 subst O;have c1:=h.cx hw;have c2:=h.cy hw;have c3:=h.cz hw
 have f1:=λi=>h.free i
 have D:=af h;clear h
 cases F:mT n with
 |false=>
  have E:=nt w n;rw[F]at E
  go_enter func258,ntmps258
  go_wp2_with fail
  refine bu E ?_;rintro x I ⟨rfl,rfl⟩;clear E;go_wp2;go_ret;exact⟨rfl,D.out,Kp.refl _ _⟩
 |true=>?_
 cases G:c==120 with
 |true=>
  have H:=af (show gX s c n={s with x:=n}by simp[gX,G]);have E:=nt w n;rw[F]at E
  go_enter func258,ntmps258
  go_wp2_with fail
  refine bu E ?_;rintro x I ⟨rfl,rfl⟩;clear E;go_wp2;go_ret;rw[H.out];exact⟨rfl,D.out.NJ hw n,(Kp.refl _ _).setCell (by intro _;rfl) _⟩
 |false=>?_
 cases J:c==121 with
 |true=>
  have H:=af (show gX s c n={s with y:=n}by simp[gX,G,J]);have E:=nt w n;rw[F]at E
  go_enter func258,ntmps258
  go_wp2_with fail
  refine bu E ?_;rintro x I ⟨rfl,rfl⟩;clear E;go_wp2;go_ret;rw[H.out];exact⟨rfl,D.out.NK hw n,(Kp.refl _ _).setCell (by intro _;rfl) _⟩
 |false=>?_
 have H:=af (show gX s c n={s with z:=n}by simp[gX,G,J]);have E:=nt w n;rw[F]at E
 go_enter func258,ntmps258
 go_wp2_with fail
 refine bu E ?_;rintro x I ⟨rfl,rfl⟩;clear E;go_wp2;go_ret;rw[H.out];exact⟨rfl,D.out.NL hw n,(Kp.refl _ _).setCell (by intro _;rfl) _⟩
end
namespace Ch
def QS(ss:List St)(l:List Bool)(parent:Int)(D:Bool)(j:Nat):Bool:=(has l j==D)&&aW ss j parent
def UB(ss:List St)(l:List Bool)(parent:Int)(D:Bool)(k:Nat):Nat:=(List.range k).countP (QS ss l parent D)
def tC(ss:List St)(l:List Bool)(parent:Int)(D:Bool):Nat:=UB ss l parent D ss.length
def fits(ss:List St)(l:List Bool)(i:Int):Bool:=
 if has l i then
  if(aN ss i != -1)&& !has l (aN ss i)then false
  else if a_ ss i==2 then((tC ss l i true:Nat):Int)==1
  else if a_ ss i==3 then((tC ss l i false:Nat):Int)==0
  else if a_ ss i==5 then false
  else true
 else aN ss i != -1
def ur(ss:List St)(i name:Int):Bool:=if name==45 then true else aW ss (place ss name) (aN ss i)
def lr(ss:List St)(l:List Bool)(parent:Int):Nat->Nat->Int
 |0,_=>-2
 |f+1,k=>if has l k&&aW ss k parent then k else lr ss l parent f (k+1)
def rF(ss:List St)(l:List Bool)(parent:Int):Int:=lr ss l parent ss.length 0
def bN(s:Sd)(k:Nat):Int:=s.cd.getD k 0
def kA(ss:List St)(s:Sd)(target:Int):Int:=
 if decide (target<0)||decide (16<=target)||a_ ss target !=5 then target
 else if bN s target.toNat==45 then dZ ss (aN ss target)
 else place ss (bN s target.toNat)
end Ch
section
variable (ob oo:Nat) (w:World) (ss:List St) (b o:Nat) (pre:List Value) (l:List Bool) (post:List Value) (T:TypeId)
theorem xA(s:Sd)(parent:Int)(G:tV w ob oo ss)(hl:ss.length<=1000)(h:ey w b pre s post T)(hw:s.Wf)(ho:pre.length=o):
 Calls prog 180 #[.pointer (some ⟨b,o,none⟩),.pointer (some ⟨ob,oo,none⟩),.int .i64 parent] w λx w'=>x= .returned (.int .i64 (rF ss s.act parent))/\w'=w:=by
 obtain⟨ao,cap,c2⟩:=G.len
 go_enter func180,ntmps180
 go_wp2_with fail
 go_loop [7] (λi=>∃k:Nat,i= .int .i64 k/\k<=ss.length/\Hid (rF ss s.act parent=lr ss s.act parent (ss.length-k) k)) (λi=>ss.length-(intOf i).toNat)
 case atStart=>exact⟨0,rfl,aG _,af rfl⟩
 case round=>
  obtain⟨k,rfl,hk,D⟩:=hrel
  by_cases aa:k<ss.length
  ·have Y:(k:Int)<(ss.length:Int):=by omega
   have F:ss.length-k=(ss.length-(k+1))+1:=by omega
   have I:=af (lW w b o pre s.act (cX s++post) T k h hw.1 ho);have J:=af (mi ob oo w ss k parent G hl)
   cases O:Ch.has s.act (k:Int)with
   |false=>
    have E:=af (D.out.trans (show _=lr ss s.act parent (ss.length-(k+1)) (k+1)by rw[F];simp[lr,O]));rw[O]at I;clear F D h G
    go_wp2_with fail
    refine hm I ?_;rintro x X ⟨rfl,rfl⟩;go_wp2
    go_round
    case rel=>exact⟨k+1,by go_num,by omega,E⟩
    case measure=>simp[intOf];omega
   |true=>?_
   rw[O]at I
   cases U:aW ss k parent with
   |false=>
    have E:=af (D.out.trans (show _=lr ss s.act parent (ss.length-(k+1)) (k+1)by rw[F];simp[lr,U]));rw[U]at J;clear F D h G
    go_wp2_with fail
    refine hm I ?_;rintro x X ⟨rfl,rfl⟩
    go_wp2_with fail
    refine hm J ?_;rintro x X ⟨rfl,rfl⟩;go_wp2
    go_round
    case rel=>exact⟨k+1,by go_num,by omega,E⟩
    case measure=>simp[intOf];omega
   |true=>?_
   have E:=af (D.out.trans (show _=((k:Nat):Int)by rw[F];simp[lr,O,U]));rw[U]at J;clear F D h G
   go_wp2_with fail
   refine hm I ?_;rintro x X ⟨rfl,rfl⟩
   go_wp2_with fail
   refine hm J ?_;rintro x X ⟨rfl,rfl⟩;go_wp2;go_ret;exact⟨by rw[E.out];rfl,rfl⟩
  have E:=af (D.out.trans (show _=(-2:Int)by rw[show ss.length-k=0 by omega];rfl))
  have Z:¬(k:Int)<(ss.length:Int):=by omega
  clear D h G
  go_wp2_with fail
  go_ret;exact⟨by rw[E.out];rfl,rfl⟩
end
section
variable (ob oo:Nat) (w:World) (ss:List St) (b o:Nat) (pre:List Value) (l:List Bool) (post:List Value) (T:TypeId)
theorem NM(s:Sd)(g:Int)(D:tV w ob oo ss)(I:ss.length<=1000)(h:ey w b pre s post T)(hw:s.Wf)(ho:pre.length=o):
 Calls prog 160 #[.pointer (some ⟨b,o,none⟩),.pointer (some ⟨ob,oo,none⟩),.int .i64 g] w λx w'=>x= .returned (.int .i64 (kA ss s g))/\w'=w:=by
 subst ho;have J:=af (mh ob oo w ss g D I);have Z:=af (iR ob oo w ss g D I);have X:=af (n_ ob oo w ss (aN ss g) D I)
 by_cases h0:g<0
 ·rw[show kA ss s g=g by simp[kA,h0]]
  clear D h
  go_enter func160,ntmps160
  go_wp2;go_ret;exact⟨rfl,rfl⟩
 have E:decide (g<0)=false:=by simp;omega
 by_cases h1:16<=g
 ·rw[show kA ss s g=g by simp[kA,h1]]
  clear D h
  go_enter func160,ntmps160
  go_wp2;go_ret;exact⟨rfl,rfl⟩
 have F:decide (16<=g)=false:=by simp;omega
 obtain⟨k,rfl⟩:∃k:Nat,g=(k:Int):=⟨g.toNat,by omega⟩
 have hk:k<16:=by omega
 have aa:(k:Int)<16:=by omega
 have c:w.cell? _=some (.int .u8 (bN s k)):=h.cd hw hk;have Y:=af (qf ob oo w ss (bN s k) D I)
 cases O:a_ ss (k:Int)!=5 with
 |true=>
  rw[show kA ss s (k:Int)=(k:Int)by simp[kA,O]];clear D h
  go_enter func160,ntmps160
  go_wp2_with fail
  refine hm J ?_;rintro x G ⟨rfl,rfl⟩;go_wp2;go_ret;exact⟨rfl,rfl⟩
 |false=>?_
 cases U:bN s k==45 with
 |true=>
  rw[show kA ss s (k:Int)=dZ ss (aN ss k)by simp[kA,E,F,O,U]];clear D h
  go_enter func160,ntmps160
  go_wp2_with fail
  refine hm J ?_;rintro x G ⟨rfl,rfl⟩
  go_wp2_with fail
  refine hm Z ?_;rintro x G ⟨rfl,rfl⟩
  go_wp2_with fail
  refine hm X ?_;rintro x G ⟨rfl,rfl⟩;go_wp2;go_ret;exact⟨rfl,rfl⟩
 |false=>?_
 rw[show kA ss s (k:Int)=Ch.place ss (bN s k)by simp[kA,E,F,O,U]];clear D h
 go_enter func160,ntmps160
 go_wp2_with fail
 refine hm J ?_;rintro x G ⟨rfl,rfl⟩
 go_wp2_with fail
 refine hm Y ?_;rintro x G ⟨rfl,rfl⟩;go_wp2;go_ret;exact⟨rfl,rfl⟩
end
def dU(d:TypeDesc):Bool:=match d with| .struct _| .array _ _=>true|_=>false
section
variable {P:Program}
theorem qg(w:World)(b o:Nat)(ty:TypeId)(D:List Value)(d:TypeDesc)(I:∀j v,D[j]? =some v->w.cell? ⟨b,o+j,none⟩=some v)
 (hu:P.underlying ty=some d) (O:dU d=true) (hi:(P.info? ty).map (·.size)=some D.length):
 (loadVar ty ⟨b,o,none⟩).run P w= .ok (.agg D.toArray) w:=by
 have J:(loadCells ⟨b,o,none⟩ D.length).run P w= .ok D.toArray w:=
  run_loadCells_list (P:=P) w ⟨b,o,none⟩ D (λj v hv=>by
   have E:(⟨b,o,none⟩:Addr).add j=⟨b,o+j,none⟩:=by unfold Addr.add;split<;>simp_all
   rw[E];exact I j v hv)
 cases G:P.info? ty with
 |none=>simp_all
 |some i=>?_
 have hs:i.size=D.length:=by simpa[G]using hi
 have F:(isAgg ty).run P w= .ok true w:=by
  unfold isAgg;rw[jD,run_underlying hu w]
  cases d<;>simp_all [dU]
 simp[loadVar,Sem.run_bind,F,sizeOf,typeInfo,G,hs,J]
theorem cH{D:Array Oper}{rest:List Oper}{op:Oper}{a:Act}{w:World}{Q:Exit->Act->World->Prop}(F:op.guard=none)(ty:TypeId)(x:Operand)(G:op.op= .load ty x)
 (b o:Nat) (O:a.eval x= .pointer (some ⟨b,o,none⟩)) (E:List Value) (d:TypeDesc) (I:∀j v,E[j]? =some v->w.cell? ⟨b,o+j,none⟩=some v)
 (hu:P.underlying ty=some d) (J:dU d=true) (hi:(P.info? ty).map (·.size)=some E.length)
 (h:wpList P D Q rest (a.put op.dst (.agg E.toArray)) w):wpList P D Q (op::rest) a w:=
 wpList_plain F λK hK=>by
  unfold Oper.wp execOp;simp only[G,O,Instr.loadAt,Instr.sureAddr,jD,k_,jE,qg w b o ty E d I hu J hi];exact hK _ _ h
theorem results_cell_tmp{G:Func}{p q:Tmp}{ty:TypeId}(h:G.results= #[.cell p ty,.tmp q])(D:Array Value)(w:World)(g:Nat)(t:TypeId)(E:Array Value)(I:Nat×Nat)(d:TypeDesc)
 (O:D.getD p undef= .pointer (some ⟨g,0,none⟩)) (J:w.heap[g]? =some (.cells E t I))
 (hu:P.underlying ty=some d) (U:dU d=true) (hi:(P.info? ty).map (·.size)=some E.size):
 (results G D).run P w= .ok (.tuple #[.agg E,D.getD q undef]) w:=by
 have F:D[p]?.getD undef= .pointer (some ⟨g,0,none⟩):=by simpa using O
 simp[results,h,F,asAddr,run_loadVar_row w g t ty E I d J hu (by cases d<;>simp_all [dU]) hi]
theorem bB{G:Func}{p q r:Tmp}{ty:TypeId}(h:G.results= #[.cell p ty,.tmp q,.tmp r])(D:Array Value)(w:World)(g:Nat)(t:TypeId)(E:Array Value)(I:Nat×Nat)(d:TypeDesc)
 (O:D.getD p undef= .pointer (some ⟨g,0,none⟩)) (J:w.heap[g]? =some (.cells E t I))
 (hu:P.underlying ty=some d) (U:dU d=true) (hi:(P.info? ty).map (·.size)=some E.size):
 (results G D).run P w= .ok (.tuple #[.agg E,D.getD q undef,D.getD r undef]) w:=by
 have F:D[p]?.getD undef= .pointer (some ⟨g,0,none⟩):=by simpa using O
 simp[results,h,F,asAddr,run_loadVar_row w g t ty E I d J hu (by cases d<;>simp_all [dU]) hi]
theorem cj{F:Array Oper}{rest:List Oper}{o:Oper}{a:Act}{w:World}{Q:Exit->Act->World->Prop}{ty:TypeId}{x y:Operand}{g:Nat}{t:TypeId}{D:Array Value}(cells:Array Value)
 (J:w.heap[g]? =some (.cells D t (0,0))) (hi:(P.info? ty).map (·.size)=some cells.size) (E:D.size=cells.size) (I:cells.all (λv=>v.oneCell')=true)
 (h:wpList P F Q rest (a.put o.dst undef) (w.setRow g cells)) (G:o.guard=none:=by exact rfl) (O:o.op= .store ty x y:=by exact rfl)
 (U:a.eval x= .pointer (some ⟨g,0,none⟩):=by exact rfl) (X:a.eval y= .agg cells:=by exact rfl):wpList P F Q (o::rest) a w:=
 wpList_store_row G ty x y O g cells U X t D J hi E I h
theorem jO{D:Array Oper}{rest:List Oper}{o:Oper}{a:Act}{w:World}{Q:Exit->Act->World->Prop}{ty:TypeId}{x:Operand}{g:Nat}{t:TypeId}{E:Array Value}{G:Nat×Nat}{d:TypeDesc}
 (I:w.heap[g]? =some (.cells E t G)) (hu:P.underlying ty=some d) (U:dU d=true) (hi:(P.info? ty).map (·.size)=some E.size)
 (h:wpList P D Q rest (a.put o.dst (.agg E)) w) (F:o.guard=none:=by exact rfl) (J:o.op= .load ty x:=by exact rfl)
 (O:a.eval x= .pointer (some ⟨g,0,none⟩):=by exact rfl):wpList P D Q (o::rest) a w:=
 wpList_load_row F ty x J g O t E G d I hu (by cases d<;>simp_all [dU]) hi h
theorem oR{E:Func}{R:Ending->World->Prop}{a:Act}{p q:Tmp}{ty:TypeId}{w:World}{g:Nat}{t:TypeId}{D:Array Value}{F:Nat×Nat}{d:TypeDesc}
 (O:w.heap[g]? =some (.cells D t F)) (hu:P.underlying ty=some d) (I:dU d=true) (hi:(P.info? ty).map (·.size)=some D.size)
 (G:R (.returned (.tuple #[.agg D,a.tmps.getD q undef])) w) (h:E.results= #[.cell p ty,.tmp q]:=by exact rfl) (U:a.tmps.getD p undef= .pointer (some ⟨g,0,none⟩):=by exact rfl)
 (J:a.defers=[]:=by exact rfl):bodyPost P E R .ret a w:=
 bg (results_cell_tmp h _ _ g t D F d U O hu I hi) J G
theorem uu{E:Func}{R:Ending->World->Prop}{a:Act}{p:Tmp}{ty:TypeId}{w:World}{g:Nat}{t:TypeId}{D:Array Value}{F:Nat×Nat}{d:TypeDesc}
 (J:w.heap[g]? =some (.cells D t F)) (hu:P.underlying ty=some d) (U:dU d=true) (hi:(P.info? ty).map (·.size)=some D.size)
 (G:R (.returned (.agg D)) w) (h:E.results= #[.cell p ty]:=by exact rfl) (O:a.tmps.getD p undef= .pointer (some ⟨g,0,none⟩):=by exact rfl)
 (I:a.defers=[]:=by exact rfl):bodyPost P E R .ret a w:=
 bg (results_cell_row h _ _ g t D F d O J hu (by cases d<;>simp_all [dU]) hi) I G
end
theorem Jc:(prog.info? 91).map (·.size)=some 16:=by kernel_rfl
theorem Jd:(prog.info? 93).map (·.size)=some 16:=by kernel_rfl
theorem fR:(prog.info? 95).map (·.size)=some 36:=by kernel_rfl
theorem GB:∃d,prog.underlying 91=some d/\dU d=true:=⟨_,underlying91,rfl⟩
theorem NN:∃d,prog.underlying 93=some d/\dU d=true:=⟨_,underlying93,rfl⟩
theorem iM:∃d,prog.underlying 95=some d/\dU d=true:=⟨_,underlying95,rfl⟩
namespace Ch
def fT:List Bool:=List.replicate 16 false
def WN(ss:List St)(t:ByteArray):Nat->Nat->Int->List Bool->Option (List Bool)
 |0,_,_,l=>some l
 |f+1,k,last,l=>if place ss (ag t k)<=last then none else WN ss t f (k+1) (place ss (ag t k)) (sq l (place ss (ag t k)) true)
def allFit(ss:List St)(l:List Bool)(k:Nat):Bool:=(List.range k).all λj=>fits ss l (j:Int)
def Je(ss:List St)(t:ByteArray):Option (List Bool):=
 match WN ss t t.size 0 (-1) fT with
 |none=>none
 |some l=>if allFit ss l ss.length then some l else none
def vd(ss:List St)(t:ByteArray):List Bool×Bool:=match Je ss t with|some l=>(l,true)|none=>(fT,false)
def GC:List Int:=List.replicate 16 0
def gY(ss:List St)(j:Nat):Bool:=match ss[j]? with|some s=>s.kind==5|none=>false
def iS(ss:List St)(k:Nat):List Int:=(List.range 16).map λj=>if decide (j<k)&&gY ss j then 45 else 0
def ix(ss:List St):List Int:=iS ss 16
theorem uw(ss:List St)(k:Nat):(iS ss k).length=16:=by simp[iS]
theorem GD{ss:List St}{k:Nat}(hk:k<16)(h:gY ss k=true):iS ss (k+1)=(iS ss k).set k 45:=by
 apply eL;grind[iS,uw]
theorem Kk{ss:List St}{k:Nat}(h:gY ss k=false):iS ss (k+1)=iS ss k:=by
 grind[iS]
theorem GF{ss:List St}{k:Nat}(h:ss.length<=k\/16<=k):iS ss k=ix ss:=by
 unfold ix iS;apply nF;grind[gY]
theorem jP(ss:List St):(ix ss).length=16:=uw _ _
end Ch
def Kl(w:World)(b:Nat)(l:List Int):Prop:=w.heap[b]? =some (.cells (bZ l).toArray 93 (0,0))
section
variable {w:World} {b:Nat} {l:List Int}
theorem Kl.cell(h:Kl w b l)(D:l.length=16){k:Nat}(hk:k<16):w.cell? ⟨b,k,none⟩=some (.int .u8 (l.getD k 0)):=by
 unfold Kl at h;simp[World.cell?,h,bZ,show k<l.length by omega]
theorem Kl.free(h:Kl w b l)(i:Nat):w.frozen? ⟨b,i,none⟩=false:=by unfold Kl at h;simp[World.frozen?,h]
theorem Kl.set(h:Kl w b l)(k:Nat)(v:Int):Kl (w.setCell ⟨b,k,none⟩ (.int .u8 v)) b (l.set k v):=by
 unfold Kl at*;rw[ak _ h];simp_all[bZ]
end
theorem Jf(l:List Int):(bZ l).toArray.all (λx=>x.oneCell')=true:=by
 apply gN.2;intro x D;simp only[bZ,lZ,ib]at D;obtain⟨a,_,rfl⟩:=D;rfl
theorem yk{l:List Int}(D:l.length=16):(bZ l).toArray.size=16:=by simp[bZ,D]
theorem UC:prog.underlying 93=some (.array (prog.arrayLen 93) (prog.elem 93)):=by kernel_rfl
theorem UD:prog.arrayLen 93=16:=by kernel_rfl
theorem QT:prog.elem 93=5:=by kernel_rfl
theorem AZ(w:World)(b o k:Nat)(hk:k<16):(Instr.indexAt 93 (.pointer (some ⟨b,o,none⟩)) (.int .i64 (k:Int))).run prog w= .ok (.pointer (some ⟨b,o+k,none⟩)) w:=by
 rw[run_indexAt_array (h:=UC),UD,QT,aq (by omega)]
 have hs:(sizeOf 5).run prog w= .ok 1 w:=by
  simp_all
 rw[hs];simp only[jE,db,Nat.mul_one,Addr.add]
 simp_all
section
variable (ob oo:Nat) (w:World) (ss:List St)
theorem Ah(hS:tV w ob oo ss):
 Calls prog 115 #[.pointer (some ⟨ob,oo,none⟩)] w λx w'=>x= .returned (.agg (bZ (ix ss)).toArray)/\Kp (λ_=>False) w w':=by
 obtain⟨J,I,kJ⟩:=NN;have F:tV ((w.alloc (.cells uo 93)).alloc (.cells uo 93)) _ _ _:=(hS.alloc _).alloc _
 have aj:((w.alloc (.cells uo 93)).alloc (.cells uo 93)).heap[w.heap.size]? =some (.cells uo 93):=by
  rw[cQ _ _ _ (by simp)];exact an _ _
 have E:Kl ((w.alloc (.cells uo 93)).alloc (.cells uo 93)) _ (iS ss 0):=nV w _ _;have K2:Kp (λ_=>False) w ((w.alloc (.cells uo 93)).alloc (.cells uo 93)):=((Kp.refl _ _).alloc _).alloc _
 have sr:ob<w.heap.size:=by obtain⟨sv,base,hc,_⟩:=hS;exact nE w _ hc
 clear hS
 go_enter func115,ntmps115
 go_wp2_with fail
 generalize ((w.alloc (.cells uo 93)).alloc (.cells uo 93))=w2 at F aj E K2⊢
 go_loopw [4] (λi wr=>∃k:Nat,i= .int .i64 k/\k<=16/\k<=ss.length/\Kl wr (w.heap.size+1) (iS ss k)/\Kp (λk=>k=w.heap.size+1) w2 wr) (λi _=>16-(intOf i).toNat)
 case atStart=>exact⟨0,rfl,aG _,aG _,E,Kp.refl _ _⟩
 case round=>
  obtain⟨k,rfl,QU,aI,Z,Y⟩:=hrel;have G:=F.az Y (λx=>by omega) (λi cur hc x=>by subst x;unfold Kl at E;rw[E]at hc;simp at hc);have hr:=Y.at_ aj (λx=>by omega);have KX:=K2.trans' Y (λi hi x=>by omega)
  by_cases am:k<ss.length/\k<16
  ·obtain⟨ad,aa⟩:=am
   obtain⟨s,hs⟩:∃s,ss[k]? =some s:=⟨_,ar ad⟩
   obtain⟨g,cap,c2,a0,a1,a2,a3⟩:=G.at_ hs
   have O:(k:Int)<(ss.length:Int):=by omega
   have Ag:(k:Int)<16:=by omega
   have cw:=Z.cell (uw _ _) aa;have fw:=Z.free k
   have ap:=λw'=>AZ w' (w.heap.size+1) 0 k aa
   simp only[gw]at ap;have HH:=af (ae Z Y)
   cases q:s.kind==5 with
   |true=>
    have HS:=af (GD aa (show gY ss k=true by simp[gY,hs,q]));clear Z Y KX hr G E F hs;go_wp2
    go_roundw
    case rel=>exact⟨k+1,by go_num,by omega,by omega,by rw[HS.out];exact HH.out.1.set k 45,HH.out.2.setCell (by intro _;rfl) _⟩
    case measure=>simp[intOf];omega
   |false=>?_
   have HS:=af (Kk (show gY ss k=false by simp[gY,hs,q]));clear Z Y KX hr G E F hs;go_wp2
   go_roundw
   case rel=>exact⟨k+1,by go_num,by omega,by omega,by rw[HS.out];exact HH.out.1,HH.out.2⟩
   case measure=>simp[intOf];omega
  have HE:=af (GF (ss:=ss) (k:=k) (by omega))
  have X:wr.heap[w.heap.size+1]? =some (.cells (bZ (ix ss)).toArray 93 (0,0)):=by have:=Z;rw[HE.out]at this;exact this
  have D:(prog.info? 93).map (·.size)=some ((bZ (ix ss)).toArray).size:=by rw[yk (jP ss)];exact Jd
  have iG:=yk (jP ss);have U:=Jf (ix ss);have KZ:Kp _ _ (wr.setRow w.heap.size (bZ (ix ss)).toArray):=KX.setRow (λx=>by omega) _;obtain⟨ao,cap,c2⟩:=G.len;clear Z Y KX G E F;generalize hL:(bZ (ix ss)).toArray=L at*;have HL:=af hL;clear hL
  by_cases ad:k<ss.length
  ·have O:(k:Int)<(ss.length:Int):=by omega
   have Ag:decide ((k:Int)<16)=false:=by simp;omega
   go_wp2_with (first|refine wpList_load_row rfl 93 (.tmp 3) rfl (w.heap.size+1) rfl 93 L (0,0) J X I (by cases J<;>simp_all [dU]) D ?_|refine cj L hr D iG.symm U ?_)
   refine bg (results_cell_row rfl _ _ w.heap.size 93 L (0,0) J rfl (ax _ _ _ _ _ _ hr) I (by cases J<;>simp_all [dU]) D) rfl ?_;rw[HL.out];exact⟨rfl,KZ⟩
  have O:decide ((k:Int)<(ss.length:Int))=false:=by simp;omega
  go_wp2_with (first|refine wpList_load_row rfl 93 (.tmp 3) rfl (w.heap.size+1) rfl 93 L (0,0) J X I (by cases J<;>simp_all [dU]) D ?_|refine cj L hr D iG.symm U ?_)
  refine bg (results_cell_row rfl _ _ w.heap.size 93 L (0,0) J rfl (ax _ _ _ _ _ _ hr) I (by cases J<;>simp_all [dU]) D) rfl ?_;rw[HL.out];exact⟨rfl,KZ⟩
end
namespace Ch
def WO(ss:List St)(t:ByteArray):Nat->Nat->Nat->List Int->Option (List Int×Nat)
 |0,_,n,l=>some (l,n)
 |f+1,k,n,l=>
  if gY ss k then
   if decide (t.size<=n)|| !ur ss (k:Int) (ag t n)then none else WO ss t f (k+1) (n+1) (l.set k (ag t n))
  else WO ss t f (k+1) n l
def tD(ss:List St)(t:ByteArray):List Int×Bool:=
 match WO ss t (min ss.length 16) 0 0 (ix ss)with
 |some (l,n)=>if(n:Int)!=(t.size:Int)then(GC,false)else(l,true)
 |none=>(GC,false)
def send(s:Sd)(ev d:Int):Bool×Sd:=if 16<=s.tm.size then(false,s)else(true,{s with tm:=s.tm++strOfNums [ev,48+d]})
end Ch
section
variable (w:World) (b o:Nat) (pre:List Value) (s:Sd) (post:List Value) (T:TypeId)
theorem NO(ev d:Int)(h:ey w b pre s post T)(hw:s.Wf)(Z:pre.length=o)(hd:0<=d)(Y:d<=9):
 Calls prog 223 #[.pointer (some ⟨b,o,none⟩),.int .u8 ev,.int .i64 d] w λx w'=>x= .returned (.bool (Ch.send s ev d).1)/\ey w' b pre (Ch.send s ev d).2 post T/\Kp (λk=>k=b) w w':=by
 subst Z;have ct:=h.tm hw;have U:=h.lt;have E:=af h
 by_cases hb:16<=s.tm.size
 ·rw[show Ch.send s ev d=(false,s)by simp[Ch.send,hb]]
  have D:(16:Int)<=(s.tm.size:Int):=by omega
  clear h
  go_enter func223,ntmps223
  go_wp2;go_ret;exact⟨rfl,E.out,Kp.refl _ _⟩
 rw[show Ch.send s ev d=(true,{s with tm:=s.tm++strOfNums [ev,48+d]})by simp[Ch.send,hb]]
 have D:¬(16:Int)<=(s.tm.size:Int):=by omega
 have X:=ld (P:=prog) ((w.alloc (.cells #[.int .u8 ev,.int .u8 (48+d)] 5)).drew) 47 5 underlying47 underlying5 w.heap.size 0 2 2 [ev,48+d] rfl (by
  intro i hi
  match i,hi with
  |0,_=>simp
  |1,_=>simp) 9 underlying9
 have G:=λw'=>lf (P:=prog) w' s.tm (strOfNums [ev,48+d]) (by rw[cC];simp;omega)
 have F:ey ((w.alloc (.cells #[.int .u8 ev,.int .u8 (48+d)] 5)).drew) _ _ _ _ _:=h.az (S:=λ_=>False) ((Kp.refl _ _).alloc _).drew (λx=>x);have I:=F.tm hw
 have J:=λo=>(h.az (S:=λ_=>False) ((Kp.refl _ _).alloc o) (λx=>x)).tm hw
 have O:∀o,(w.alloc o).frozen? ⟨b,pre.length+32,none⟩=false:=λo=>(h.az (S:=λ_=>False) ((Kp.refl _ _).alloc o) (λx=>x)).free _
 clear h F hb
 go_enter func223,ntmps223
 go_wp2
 go_region
 all_goals
  go_wp2;go_ret;exact⟨rfl,(E.out.Jb hw _).az (S:=λ_=>False) (((Kp.refl _ _).alloc _).drew) (λx=>x),(((Kp.refl _ _).setCell (by intro _;rfl) _).alloc _).drew⟩
end
theorem su:(prog.info? 5).map (λi=>(i.zero,i.size,i.bytes))=some (some (.int .u8 0),1,1):=by kernel_rfl
theorem fF{n:Int}(h: -9223372036854775808<=n/\n<=9223372036854775807):IntKind.i64.wrap n=n:=by rw[nW];omega
theorem yl{n:Int}(h:0<=n/\n<=255):IntKind.u8.wrap n=n:=by rw[IntKind.wrap_u8];omega
def aD(l:List Int):List Value:=l.map (Value.int .u8)
theorem Ds{w:World}{base:Nat}{v:Value}{l:List Int}(h:w.ownsRow base 5 1 v l.length (aD l)):
 (convert 47 9 v).run prog w= .ok (.string (strOfNums l)) w:=by
 rcases h.2 with⟨rfl,E⟩|⟨g,cap,D,rfl,hb,F,r⟩
 ·have:=pR E
  subst this;exact run_convert_bytes_nil w 47 5 underlying47 underlying5 0 0 9 underlying9
 refine ld w 47 5 underlying47 underlying5 g 0 l.length cap l rfl ?_ 9 underlying9;intro i hi;rw[gw,h.cellAt i (by omega)];grind[aD]
namespace Ch
def sw(t:ByteArray)(c:Int):Nat->Nat->List Int->List Int
 |0,_,acc=>acc
 |f+1,k,acc=>if k+1<t.size then(if ag t k !=c then sw t c f (k+2) (acc++[ag t k,ag t (k+1)])else sw t c f (k+2) acc)else acc
def oe(s:Sd)(c:Int):Sd:={s with tm:=strOfNums (sw s.tm c s.tm.size 0 [])}
theorem Cd{t:ByteArray}{c:Int}{f k:Nat}{acc:List Int}(h:¬k+1<t.size):sw t c f k acc=acc:=by
 cases f with
 |zero=>rfl
 |succ f=>grind[sw]
def sx(t:ByteArray):Nat->Nat->List Int->List Int
 |0,_,acc=>acc
 |f+1,k,acc=>if k+1<t.size then sx t f (k+2) (acc++[ag t k,ag t (k+1)-1])else acc
def tick(s:Sd):Sd:={s with tm:=strOfNums (sx s.tm s.tm.size 0 [])}
theorem NP{t:ByteArray}{f k:Nat}{acc:List Int}(h:¬k+1<t.size):sx t f k acc=acc:=by
 cases f with
 |zero=>rfl
 |succ f=>grind[sx]
end Ch
section
variable (w:World) (b o:Nat) (pre:List Value) (s:Sd) (post:List Value) (T:TypeId)
theorem Ce(c:Int)(h:ey w b pre s post T)(hw:s.Wf)(ho:pre.length=o)(iG:s.tm.size<=1000):
 Calls prog 224 #[.pointer (some ⟨b,o,none⟩),.int .u8 c] w λx w'=>x= .returned (.tuple #[])/\ey w' b pre (oe s c) post T/\Kp (λk=>k=b) w w':=by
 subst ho;obtain⟨i0,hi,Z,aa,ad⟩:=bY su;have ao:=h.lt
 go_enter func224,ntmps224
 go_wp2_with fail
 go_loopg [4,5] s.tm.size (λf v i wr=>∃(k:Nat) (acc:List Int),i= .int .i64 k/\k<=s.tm.size+1/\s.tm.size<=f+k/\acc.length<=k/\Hid (sw s.tm c s.tm.size 0 []=sw s.tm c f k acc)/\
  wr.ownsRow w.heap.size 5 1 v acc.length (aD acc)/\Kp (λ_=>False) w wr)
 case atStart=>exact⟨0,[],rfl,aG _,aC _,aC _,af rfl,bT _ _ _ _,Kp.refl _ _⟩
 case round=>
  obtain⟨k,acc,rfl,hk,hf,aj,J,D,F⟩:=hrel;have I:=h.az F (λx=>x);have ct:=I.tm hw
  by_cases G:k+1<s.tm.size
  ·obtain⟨f,rfl⟩:∃f,gk=f+1:=⟨gk-1,by omega⟩
   have am:(k:Int)+1<(s.tm.size:Int):=by omega
   have aO:(k:Int)<(s.tm.size:Int):=by omega
   have Y:ag s.tm k=((s.tm[k]'(by omega)).toNat:Int):=by simp[ag,show k<s.tm.size by omega]
   have p1:ag s.tm (k+1)=((s.tm[k+1]'G).toNat:Int):=by simp[ag,G]
   cases q:(((s.tm[k]'(by omega)).toNat:Int)!=c)with
   |false=>
    have O:=af (J.out.trans (show _=sw s.tm c f (k+2) acc by simp[sw,G,Y];intro x;simp at q;exact absurd q x));have E:=af (ae D F);clear D F I h J Y p1;go_wp2
    go_roundg f
    case measure=>omega
    case rel=>exact⟨k+2,acc,by go_num,by omega,by omega,by omega,O,E.out.1,E.out.2⟩
   |true=>?_
   have O:=af (J.out.trans (show _=sw s.tm c f (k+2) (acc++[((s.tm[k]'(by omega)).toNat:Int),((s.tm[k+1]'G).toNat:Int)])by simp[sw,G,Y,p1];intro x;simp at q;exact absurd x q));have E:=af (ae D F);have QV:IntKind.i64.wrap ((k:Int)+1)=(k:Int)+1:=fF (by omega)
   have aS:(0:Int)<=(k:Int)+1:=by omega
   clear D F I h J Y p1
   go_upto_region 5 with(fail)
   go_region_law (refine gZ rfl (.tmp 24) (.tmp 38) 47 rfl w.heap.size 5 i0 (.int .u8 0) 1 1 underlying47 hi Z aa ad rfl (by decide) _ acc.length (aD acc) (by simp[Act.eval];rfl) (by exact E.out.1.alloc _) ⟨wr.heap.size,0,none⟩ 2 2 [.int .u8 ((s.tm[k]'(by omega)).toNat:Int),.int .u8 ((s.tm[k+1]'G).toNat:Int)] (by simp[Act.eval]) rfl (by exact lP _ _ _ _) (by intro u hu;simp at hu;rcases hu with rfl|rfl<;>rfl) (by decide) (by unfold maxLen;omega) (by omega) (by have:=E.out.2.size;simp;omega) ?_;intro g cap w3 X g3;have U:Kp (λ_=>False) w w3:=Kp.grown (by exact(E.out.2.alloc _).drew) g3 (λk hk hlt=>by have:=(E.out.1.lt k hk).1;omega);have H3:=af (ae X U);clear X U g3)
   all_goals
    obtain⟨X,U⟩:=H3.out;go_wp2
    go_roundg f
    case measure=>omega
    case rel=>exact⟨k+2,_,by go_num,by omega,by omega,by simp;omega,O,by simpa[aD]using X,U⟩
  have aI:¬(k:Int)+1<(s.tm.size:Int):=by omega
  have O:=af (J.out.trans (Cd G));have ap:=Ds D;have ft:=I.free (pre.length+32);have E:=af (ae I F);clear D F I h J;go_wp2
  go_end0
  obtain⟨I,F⟩:=E.out;have h2:=I.Jb hw (strOfNums acc);rw[<-O.out]at h2⊢;exact⟨rfl,h2,(F.mono (λ_ _ x=>x.elim)).setCell (by intro _;rfl) _⟩
theorem NS(h:ey w b pre s post T)(hw:s.Wf)(ho:pre.length=o)(iG:s.tm.size<=1000)(Z:∀k,k<s.tm.size->1<=ag s.tm k):
 Calls prog 123 #[.pointer (some ⟨b,o,none⟩)] w λx w'=>x= .returned (.tuple #[])/\ey w' b pre (Ch.tick s) post T/\Kp (λk=>k=b) w w':=by
 subst ho;obtain⟨i0,hi,aa,ad,aj⟩:=bY su;have ap:=h.lt
 go_enter func123,ntmps123
 go_wp2_with fail
 go_loopg [2,3] s.tm.size (λf v i wr=>∃(k:Nat) (acc:List Int),i= .int .i64 k/\k<=s.tm.size+1/\s.tm.size<=f+k/\acc.length<=k/\Hid (sx s.tm s.tm.size 0 []=sx s.tm f k acc)/\
  wr.ownsRow w.heap.size 5 1 v acc.length (aD acc)/\Kp (λ_=>False) w wr)
 case atStart=>exact⟨0,[],rfl,aG _,aC _,aC _,af rfl,bT _ _ _ _,Kp.refl _ _⟩
 case round=>
  obtain⟨k,acc,rfl,hk,hf,am,J,E,F⟩:=hrel;have G:=h.az F (λx=>x);have ct:=G.tm hw
  by_cases D:k+1<s.tm.size
  ·obtain⟨f,rfl⟩:∃f,gk=f+1:=⟨gk-1,by omega⟩
   have ao:(k:Int)+1<(s.tm.size:Int):=by omega
   have aS:(k:Int)<(s.tm.size:Int):=by omega
   have p0:ag s.tm k=((s.tm[k]'(by omega)).toNat:Int):=by simp[ag,show k<s.tm.size by omega]
   have X:ag s.tm (k+1)=((s.tm[k+1]'D).toNat:Int):=by simp[ag,D]
   have b1:=Z (k+1) D;rw[X]at b1;have b2:=I6 s.tm (k+1);rw[X]at b2;have Y:=af (J.out.trans (show _=sx s.tm f (k+2) (acc++[((s.tm[k]'(by omega)).toNat:Int),(((s.tm[k+1]'D).toNat:Int)-1)])by simp[sx,D,p0,X]));have I:=af (ae E F);have a1:IntKind.u8.wrap (((s.tm[k+1]'D).toNat:Int)-1)=((s.tm[k+1]'D).toNat:Int)-1:=yl (by omega);have QV:IntKind.i64.wrap ((k:Int)+1)=(k:Int)+1:=fF (by omega)
   have a0:(0:Int)<=(k:Int)+1:=by omega
   clear E F G h J p0 X
   go_upto_region 4 with(fail)
   go_region_law (refine gZ rfl (.tmp 14) (.tmp 29) 47 rfl w.heap.size 5 i0 (.int .u8 0) 1 1 underlying47 hi aa ad aj rfl (by decide) _ acc.length (aD acc) (by simp[Act.eval];rfl) (by exact I.out.1.alloc _) ⟨wr.heap.size,0,none⟩ 2 2 [.int .u8 ((s.tm[k]'(by omega)).toNat:Int),.int .u8 (((s.tm[k+1]'D).toNat:Int)-1)] (by simp[Act.eval]) rfl (by exact lP _ _ _ _) (by intro u hu;simp at hu;rcases hu with rfl|rfl<;>rfl) (by decide) (by unfold maxLen;omega) (by omega) (by have:=I.out.2.size;simp;omega) ?_;intro g cap w3 U g3;have O:Kp (λ_=>False) w w3:=Kp.grown (by exact(I.out.2.alloc _).drew) g3 (λk hk hlt=>by have:=(I.out.1.lt k hk).1;omega);have H3:=af (ae U O);clear U O g3)
   all_goals
    obtain⟨U,O⟩:=H3.out;go_wp2
    go_roundg f
    case measure=>omega
    case rel=>exact⟨k+2,_,by go_num,by omega,by omega,by simp;omega,Y,by simpa[aD]using U,O⟩
  have aO:¬(k:Int)+1<(s.tm.size:Int):=by omega
  have Y:=af (J.out.trans (NP D));have aI:=Ds E;have ft:=G.free (pre.length+32);have I:=af (ae G F);clear E F G h J;go_wp2
  go_end0
  obtain⟨G,F⟩:=I.out;have h2:=G.Jb hw (strOfNums acc);rw[<-Y.out]at h2⊢;exact⟨rfl,h2,(F.mono (λ_ _ x=>x.elim)).setCell (by intro _;rfl) _⟩
end
namespace Ch
def kK(t:ByteArray):Nat->Nat->Option Nat
 |0,_=>none
 |f+1,k=>if k+1<t.size then(if ag t (k+1)==48 then some k else kK t f (k+2))else none
theorem Dt{t:ByteArray}{f k:Nat}(h:¬k+1<t.size):kK t f k=none:=by
 cases f with
 |zero=>rfl
 |succ f=>grind[kK]
def bQ(s:Sd):Int×Bool×Sd:=match kK s.tm s.tm.size 0 with
 |some k=>(ag s.tm k,true,{s with tm:=s.tm.extract 0 k++s.tm.extract (k+2) s.tm.size})
 |none=>(0,false,s)
def Wd(t:ByteArray):Nat->Nat->Bool
 |0,_=>true
 |f+1,k=>if k+1<t.size then(if ez (ag t k)&& !decide (ag t (k+1)<49)&& !decide (57<ag t (k+1))then Wd t f (k+2)else false)else true
def wY(t:ByteArray):Bool:=if((t.size:Int) % 2 !=0)||decide (16<t.size)then false else Wd t t.size 0
end Ch
section
variable (w:World) (b o:Nat) (pre:List Value) (s:Sd) (post:List Value) (T:TypeId)
theorem Du(h:ey w b pre s post T)(hw:s.Wf)(ho:pre.length=o)(iG:s.tm.size<=1000):
 Calls prog 124 #[.pointer (some ⟨b,o,none⟩)] w λx w'=>x= .returned (.tuple #[.int .u8 (bQ s).1,.bool (bQ s).2.1])/\ey w' b pre (bQ s).2.2 post T/\Kp (λk=>k=b) w w':=by
 subst ho;have ct:=h.tm hw;have ft:=h.free (pre.length+32);have O:=af h;clear h
 go_enter func124,ntmps124
 go_wp2_with fail
 go_loopg [4] s.tm.size (λf i wr=>∃k:Nat,i= .int .i64 k/\k<=s.tm.size+1/\s.tm.size<=f+k/\Hid (kK s.tm s.tm.size 0=kK s.tm f k)/\wr=w)
 case atStart=>exact⟨0,rfl,aG _,aC _,af rfl,rfl⟩
 case round=>
  obtain⟨k,rfl,hk,hf,E,rfl⟩:=hrel
  by_cases D:k+1<s.tm.size
  ·obtain⟨f,rfl⟩:∃f,gk=f+1:=⟨gk-1,by omega⟩
   have X:(k:Int)+1<(s.tm.size:Int):=by omega
   have Z:(k:Int)<(s.tm.size:Int):=by omega
   have J:ag s.tm k=((s.tm[k]'(by omega)).toNat:Int):=by simp[ag,show k<s.tm.size by omega]
   have G:ag s.tm (k+1)=((s.tm[k+1]'D).toNat:Int):=by simp[ag,D]
   cases q:(((s.tm[k+1]'D).toNat:Int)==48)with
   |false=>
    have F:=af (E.out.trans (show _=kK s.tm f (k+2)by simp only[kK,D,G,q,aV];simp));clear E J G;go_wp2
    go_roundg f
    case measure=>omega
    case rel=>exact⟨k+2,by go_num,by omega,by omega,F,rfl⟩
   |true=>?_
   have F:=af (E.out.trans (show _=some k by simp only[kK,D,G,q,aV]));have I:=af (show bQ s=(((s.tm[k]'(by omega)).toNat:Int),true,{s with tm:=s.tm.extract 0 k++s.tm.extract (k+2) s.tm.size})by unfold bQ;rw[F.out];simp[J]);have QV:IntKind.i64.wrap ((k:Int)+2)=(k:Int)+2:=fF (by omega)
   have aa:(0:Int)<=(k:Int)+2:=by omega
   have ad:(k:Int)+2<=(s.tm.size:Int):=by omega
   have U:=λw'=>lf (P:=prog) w' (s.tm.extract 0 k) (s.tm.extract (k+2) s.tm.size) (by simp[ByteArray.size_extract];omega)
   clear E J G F
   go_upto_region 6 with(fail)
   go_region
   all_goals
    go_wp2;go_ret2;rw[I.out];exact⟨rfl,O.out.Jb hw _,((Kp.refl _ _).drew).setCell (by intro _;rfl) _⟩
  have Y:¬(k:Int)+1<(s.tm.size:Int):=by omega
  have I:=af (show bQ s=(0,false,s)by unfold bQ;rw[E.out,Dt D]);clear E;go_wp2;go_ret2;rw[I.out];exact⟨rfl,O.out,Kp.refl _ _⟩
end
theorem jc{P:Program}{E:Array Oper}{rest:List Oper}{o:Oper}{a:Act}{w:World}{Q:Exit->Act->World->Prop}(F:o.guard=none)(t:TypeId)(parts:Array (Nat×Operand))(G:o.op= .build t parts)
 (cells:Array Value) (D:List (Nat×Value)) (I:parts.toList.map (λp=>(p.1,a.eval p.2))=D) (hb:P.built t D=some cells)
 (h:wpList P E Q rest (a.put o.dst (.agg cells)) w):wpList P E Q (o::rest) a w:=
 have e:(parts.map λ(i,x)=>(i,a.eval x)).toList=D:=by simp_all
 wpList_build F t parts G (by rw[e,hb];rfl) (by rw[e,hb];exact h)
theorem ym{α:Type}(l:List α)(h:l.length=16):∃O U X Y Z a5 a6 a7 a8 a9 E F D G I J,l=[O,U,X,Y,Z,a5,a6,a7,a8,a9,E,F,D,G,I,J]:=by
 match l,h with
 | [O,U,X,Y,Z,a5,a6,a7,a8,a9,E,F,D,G,I,J],_=>simp_all
def aY(s:Sd):List Value:=s.act.map Value.bool++cX s
theorem cP{s:Sd}(hw:s.Wf):(aY s).length=36:=by simp[aY,cX,bZ,hw.1,hw.2]
theorem oh(s:Sd):(aY s).toArray.all (λx=>x.oneCell')=true:=by
 apply gN.2;intro x D;simp only[aY,cX,bZ,lZ,cB,ib,dP,hY,h_]at D
 rcases D with⟨a,_,rfl⟩|⟨a,_,rfl⟩|rfl|rfl|rfl|rfl<;>rfl
theorem jQ{s:Sd}(hw:s.Wf):(aY s).toArray.size=36:=by simp[cP hw]
theorem iT{s:Sd}(hw:s.Wf):(prog.info? 95).map (·.size)=some ((aY s).toArray).size:=by rw[jQ hw];exact fR
theorem GG(O U X Y Z p5 p6 p7 p8 p9 D E F G I J:Int):
 prog.built 95 [(1,.agg #[.int .u8 O,.int .u8 U,.int .u8 X,.int .u8 Y,.int .u8 Z,.int .u8 p5,.int .u8 p6,.int .u8 p7,.int .u8 p8,.int .u8 p9,.int .u8 D,.int .u8 E,.int .u8 F,.int .u8 G,.int .u8 I,.int .u8 J])]=some #[.bool false,.bool false,.bool false,.bool false,.bool false,.bool false,.bool false,.bool false,.bool false,.bool false,.bool false,.bool false,.bool false,.bool false,.bool false,.bool false,.int .u8 O,.int .u8 U,.int .u8 X,.int .u8 Y,.int .u8 Z,.int .u8 p5,.int .u8 p6,.int .u8 p7,.int .u8 p8,.int .u8 p9,.int .u8 D,.int .u8 E,.int .u8 F,.int .u8 G,.int .u8 I,.int .u8 J,.string ByteArray.empty,.int .i64 0,.int .i64 0,.int .i64 0]:=by kernel_rfl
namespace Ch
def cS(ss:List St):Sd:=⟨fT,ix ss,ByteArray.empty,0,0,0⟩
theorem om(ss:List St):(cS ss).Wf:=⟨rfl,jP ss⟩
def wh:Sd:=⟨fT,GC,ByteArray.empty,0,0,0⟩
theorem QW:wh.Wf:=⟨rfl,rfl⟩
end Ch
theorem Dv(ss:List St):prog.built 95 [(1,.agg (bZ (ix ss)).toArray)]=some (aY (cS ss)).toArray:=by
 unfold aY cX cS;obtain⟨O,U,X,Y,Z,p5,p6,p7,p8,p9,D,E,F,G,I,J,e⟩:=ym (ix ss) (jP ss);rw[e];exact GG O U X Y Z p5 p6 p7 p8 p9 D E F G I J
section
variable (ob oo:Nat) (w:World) (ss:List St)
theorem Ko(hS:tV w ob oo ss):
 Calls prog 70 #[.pointer (some ⟨ob,oo,none⟩)] w λx w'=>x= .returned (.agg (aY (cS ss)).toArray)/\Kp (λ_=>False) w w':=by
 obtain⟨ds,Z,kJ⟩:=iM;obtain⟨dm,We,aj⟩:=NN;have F:tV (w.alloc (.cells J0 95)) _ _ _:=hS.alloc _;have I:(w.alloc (.cells J0 95)).heap[w.heap.size]? =_:=an _ _;have K1:Kp (λ_=>False) w (w.alloc (.cells J0 95)):=(Kp.refl _ _).alloc _;have E0:=af (Ah ob oo (w.alloc (.cells J0 95)) ss F);have WQ:=yk (jP ss)
 have Tu:(prog.info? 93).map (·.size)=some ((bZ (ix ss)).toArray).size:=by rw[WQ];exact Jd
 have WR:=Jf (ix ss);have D:=Dv ss;have HB:=af D;clear D;have U:=iT (om ss);have Z6:=jQ (om ss);have ad:=oh (cS ss);clear hS F
 go_enter func70,ntmps70
 go_wp2_with fail
 refine hm E0 ?_;rintro x E ⟨rfl,Y⟩;have J:=Y.at_ I (λx=>x);have K3:=K1.trans Y;have X:=aR J;have G:=an E (.cells uo 93);clear I K1 Y E0;generalize (bZ (ix ss)).toArray=L at*;generalize hM:(aY (cS ss)).toArray=M at*;have HM:=af hM;clear hM;have aa:((E.alloc (.cells uo 93)).setRow E.heap.size L).heap[E.heap.size]? =_:=ax _ _ _ _ _ _ G
 have O:((E.alloc (.cells uo 93)).setRow E.heap.size L).heap[w.heap.size]? =some (.cells J0 95):=by
  rw[cG _ _ _ _ (by omega),cQ _ _ _ X];exact J
 have K4:Kp _ _ (((E.alloc (.cells uo 93)).setRow E.heap.size L).setRow w.heap.size M):=((K3.alloc _).setRow (λx=>by omega) _).setRow (λx=>by omega) _
 go_wp2_with (first|(refine jc rfl 95 #[(1,.tmp 6)] rfl M [(1,.agg L)] ?_ HB.out ?_;rfl)|refine cj L G Tu WQ.symm WR ?_|refine wpList_load_row rfl 93 (.tmp 3) rfl E.heap.size rfl 93 L (0,0) dm aa We (by cases dm<;>simp_all [dU]) Tu ?_|refine cj M O U Z6.symm ad ?_)
 refine bg (results_cell_row rfl _ _ w.heap.size 95 M (0,0) ds rfl (ax _ _ _ _ _ _ O) Z (by cases ds<;>simp_all [dU]) U) rfl ?_;rw[HM.out];exact⟨rfl,K4⟩
