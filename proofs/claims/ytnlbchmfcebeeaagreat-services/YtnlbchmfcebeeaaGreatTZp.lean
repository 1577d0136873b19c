import Derived.Test.YtnlbchmfcebeeaaGreatTZl
import Derived.Lib.ConvBytes
set_option maxHeartbeats 12800000
set_option maxRecDepth 100000
namespace Go.Proofs.YtnlbchmfcebeeaaGreat
open Go.Proofs.Tryz Ch
open Go.RowKit
open Value(int slice bool pointer string agg tuple)
open IntKind(i64)
open Obj(cells)
open Ending(returned)
open Operand(tmp)
open Or(inl inr)
namespace Ch
def gP(ss:List St)(a:As):Bool×Sd:=take ss a.act a.b_ a.tm a.x a.y a.z
def oH(t:ByteArray)(a:As):Int:=if(read t).1 !=0 then(read t).1 else if(gP (read t).2.2.ah a).1 then 0 else 7
def qO(t:ByteArray)(a:As):Sd:=if(read t).1 !=0 then l8 else if(gP (read t).2.2.ah a).1 then(gP (read t).2.2.ah a).2 else l8
theorem Oq t(h:(read t).1=0):(read t).2.1=0:=by
 grind[read]
structure As.Sm(a:As):Prop where
 act:a.act.size<=9223372036854775807
 b_:a.b_.size<=9223372036854775807
 tm:a.tm.size<=9223372036854775807
end Ch
theorem zV w t a(ha:a.Sm):
 Calls prog 55 #[string t,agg (cM a)] w λx w'=>∃sv tv bv lt lb,x=returned (agg (yY (oH t a) sv tv bv (qO t a)))/\
  (sv.oneCell'=true/\tv.oneCell'=true/\bv.oneCell'=true)/\(oH t a=0->Bw w' w.heap.size (Ch.read t).2.2 sv tv bv lt lb)/\Kp bA w w':=by
 have⟨dg,hdg,hga⟩:=aa0;have⟨da,jx,dQ⟩:=kz;have⟨dO,hdO,Zz⟩:=XG;have⟨ds,hds,iT⟩:=g7;have aj:((w.alloc (cells (cM a) 26)).alloc (cells rO 119)).heap[w.heap.size]? =some (cells (cM a) 26):=by
  rw[cE _ _ _ dy];exact ak _ _
 have am:((w.alloc (cells (cM a) 26)).alloc (cells rO 119)).heap[w.heap.size+1]? =some (cells rO 119):=jM w _ _;have K1:Kp bA w ((w.alloc (cells (cM a) 26)).alloc (cells rO 119)):=((Kp.refl _ _).alloc _).alloc _;have E0:=ag (vp t ((w.alloc (cells (cM a) 26)).alloc (cells rO 119)));have a0:=ux t;have a5:=Oq t;have HU:=ag (show oH t a=if(Ch.read t).1 !=0 then(Ch.read t).1 else if(gP (Ch.read t).2.2.ah a).1 then 0 else 7 from rfl);have HV:=ag (show qO t a=if(Ch.read t).1 !=0 then l8 else if(gP (Ch.read t).2.2.ah a).1 then(gP (Ch.read t).2.2.ah a).2 else l8 from rfl);have HW:=ag (show cM a=cM a from rfl);generalize tR:cM a=AA at aj am K1 E0 HW⊢;have aI:(prog.info? 26).map (·.size)=some AA.size:=by rw[<-tR];exact bF
 have Hd:=ag tR;clear tR HW;go_in;go_wp;refine hm E0 ?_;rintro x Z ⟨sv,tv,bv,lt,lb,rfl,F2,B2⟩;have K2:=s_ B2;have aS:=K2.at_ aj (λx=>x);have ao:=K2.at_ am (λx=>x);have KA:=K1.trans K2;have O:w.heap.size<=((w.alloc (cells AA 26)).alloc (cells rO 119)).heap.size:=K1.size;have J:Bw Z w.heap.size (Ch.read t).2.2 sv tv bv lt lb:=
  ⟨cH F2.ah O,F2.G8,cH F2.dF O,λx Y=>cH (F2.kZ x Y) O,F2.Kj,cH F2.fH O,λx Y=>cH (F2.uo x Y) O⟩
 clear E0 aj am K1 K2 B2 F2 O;generalize a3:Ch.read t=rd at*;have⟨re,rf,ol⟩:=rd;have a6:=ag a3;clear a3;simp only at a0 J HU HV a5;have Ds:=Hn (e:=re) (f:=rf) (gC J.ah) (gC J.dF) (gC J.fH);have F:=ak Z (cells Dp 87);have D:=an (Z.alloc (cells Dp 87)) Z.heap.size _ (wj re rf sv tv bv) 87 (0,0) F;have K3:=rQ Z (cells Dp 87) (wj re rf sv tv bv);have Q:=J.aw K3;have G:=K3.at_ aS (λx=>x);have I:=K3.at_ ao (λx=>x);have KB:=KA.trans K3;have a9:w.heap.size+1<Z.heap.size:=aR ao;have HX:=rP Q G I KB D;clear aS ao KA K3 Q G I KB D J;go_upto_region 2 with(refine bJ (wj re rf sv tv bv) F xo rfl Ds ?_);generalize (Z.alloc (cells Dp 87)).setRow Z.heap.size (wj re rf sv tv bv)=w3 at*;have⟨Q,G,I,KB,D⟩:=HX;have z0:w3.cell? ⟨Z.heap.size,0,none⟩=some (int i64 re):=dG D rfl;clear F Ds Q G KB D;generalize Z.heap.size=ob at*;cases q1:re !=0 with
 |true=>
  have HB:=ag (yn re);have X1:=tE re (slice none 0 0) (slice none 0 0) (slice none 0 0) nH;have U:=q_ re (slice none 0 0) (slice none 0 0) (slice none 0 0) nH;have R:=wB re (sv:=slice none 0 0) (tv:=slice none 0 0) (bv:=slice none 0 0) rfl rfl rfl l8;generalize RW:yY re (slice none 0 0) (slice none 0 0) (slice none 0 0) l8=GA at*;have HG:=ag RW;clear RW;go_wp2_with (first|(refine fJ rfl 119 #[(0,.tmp 14)] rfl GA [(0,int i64 re)] ?_ HB.out ?_;rfl)|refine bJ GA I X1 (by rw[U];rfl) R ?_);have⟨Q,G,I,KB,D⟩:=HX;refine uY (an _ _ _ _ _ _ I) hdg hga X1 ?_;rw[(ag (HU.trans (show _=re by rw[q1];rfl))),(ag (HV.trans (show _=l8 by rw[q1];rfl))),<-HG];exact⟨_,_,_,lt,lb,rfl,⟨rfl,rfl,rfl⟩,λe=>absurd e (cX q1),KB.setRow (λx=>oQ) _⟩
 |false=>?_
 have a4:re=0:=cX q1;have ab:=ag (HU.trans (show _=if(gP ol.ah a).1 then(0:Int)else 7 by rw[q1];rfl));have ad:=ag (HV.trans (show _=if(gP ol.ah a).1 then(gP ol.ah a).2 else l8 by rw[q1];rfl));have⟨Q,G,afj,KB,D⟩:=HX;have a1:=Pl.ofRow D Q;have E1:=ag (Pf ob 0 w3 ol.ah a.act a.b_ a.tm a.x a.y a.z ha.act ha.b_ ha.tm a1.str (by have:=a0.ah;omega));have ap:=yl (ss:=ol.ah) (a:=a.act) (p:=a.b_) (t:=a.tm) (x:=a.x) (y:=a.y) (z:=a.z)
 have aa:Hid (Calls prog 79 #[pointer (some ⟨ob,0,none⟩),agg AA] w3
  λr w'=>r=returned (tuple #[agg (aN (gP ol.ah a).2).toArray,bool (gP ol.ah a).1])/\Kp bA w3 w'):=by rw[<-Hd];exact E1
 have Fg:(gP ol.ah a).2.Ok:=ap;clear Q KB D E1 ap a1 HU HV;generalize gP ol.ah a=tk at*;have⟨tb,ts⟩:=tk;simp only at Fg ab ad aa;have tI:=iD Fg.1;have tS:=jc Fg.1;have tO:=mK ts;go_wp2_with (refine gV G jx dQ aI ?_);refine b9 (fA aa) ?_;intro w4 K4;have⟨Q,G,I,KB,D⟩:=HX;have F4:=Q.aw K4;have a2:=K4.at_ I (λx=>x);have X:=K4.at_ D (λx=>x);have KC:=KB.trans K4;have F:=ak w4 (cells cB 95);have uO:=an (w4.alloc (cells cB 95)) w4.heap.size cB (aN ts).toArray 95 (0,0) F;have K5:=rQ w4 (cells cB 95) (aN ts).toArray;have E:=F4.aw K5;have lM:=K5.at_ a2 (λx=>x);have tF:=K5.at_ X (λx=>x);have KD:=KC.trans K5;have HY:=c_ E lM KD;have HT:=ag (show(aN ts).toArray=(aN ts).toArray from rfl);clear Q G I afj KB D F4 a2 X KC K4 K5 HX aa E KD z0;generalize aO:(aN ts).toArray=TA at*;have a7:=ag aO;clear aO HT;go_upto_region 5 with(refine bJ TA F tI (by rw[tS];rfl) tO ?_);generalize (w4.alloc (cells cB 95)).setRow w4.heap.size TA=w5 at*;generalize w4.heap.size=bb at*;cases tb with
 |false=>
  have HE:=ag (ab.trans (show _=(7:Int)from rfl));have HS:=ag (ad.trans (show _=l8 from rfl));have HB:=ag (yn 7);have X1:=tE 7 (slice none 0 0) (slice none 0 0) (slice none 0 0) nH;have U:=q_ 7 (slice none 0 0) (slice none 0 0) (slice none 0 0) nH;have R:=wB 7 (sv:=slice none 0 0) (tv:=slice none 0 0) (bv:=slice none 0 0) rfl rfl rfl l8;generalize RW:yY 7 (slice none 0 0) (slice none 0 0) (slice none 0 0) l8=GA at*;have HG:=ag RW;clear RW;go_wp2_with (first|(refine fJ rfl 119 #[(0,.const (int i64 7))] rfl GA [(0,int i64 7)] ?_ HB ?_;rfl)|refine bJ GA lM X1 (by rw[U];rfl) R ?_);have⟨E,lM,KD⟩:=HY;refine uY (an _ _ _ _ _ _ lM) hdg hga X1 ?_;rw[HE,HS,<-HG];exact⟨_,_,_,lt,lb,rfl,⟨rfl,rfl,rfl⟩,λe=>absurd e aV,KD.setRow (λx=>oQ) _⟩
 |true=>?_
 have HE:=ag (ab.trans (show _=(0:Int)from rfl));have HS:=ag (ad.trans (show _=ts from rfl));have⟨E,abU,KD⟩:=HY;obtain⟨sa,sl,sc,rfl⟩:=gu E.ah;obtain⟨ta,tl,tc,rfl⟩:=gu E.dF;obtain⟨ba,bl,bc,rfl⟩:=gu E.fH;have a8:=a5 a4;subst a4 a8;have HB:Hid (prog.built 119 [(1,agg (wj 0 0 (slice sa sl sc) (slice ta tl tc) (slice ba bl bc))),(2,agg TA)]=some (yY 0 (slice sa sl sc) (slice ta tl tc) (slice ba bl bc) ts)):=ag (by rw[<-a7];exact Il sa ta ba sl sc tl tc bl bc ts Fg.1);have X1:=tE 0 (slice sa sl sc) (slice ta tl tc) (slice ba bl bc) Fg.1;have U:=q_ 0 (slice sa sl sc) (slice ta tl tc) (slice ba bl bc) Fg.1;have R:=wB 0 (sv:=slice sa sl sc) (tv:=slice ta tl tc) (bv:=slice ba bl bc) rfl rfl rfl ts;have oI:(prog.info? 87).map (·.size)=some (wj 0 0 (slice sa sl sc) (slice ta tl tc) (slice ba bl bc)).size:=xo;clear E KD abU;generalize RW:yY 0 (slice sa sl sc) (slice ta tl tc) (slice ba bl bc) ts=GA at*;have HG:=ag RW;clear RW;generalize wj 0 0 (slice sa sl sc) (slice ta tl tc) (slice ba bl bc)=OA at*;go_wp2_with (first|refine gV tF hdO Zz oI ?_|refine gV uO hds iT tI ?_|(refine fJ rfl 119 #[(1,.tmp 24),(2,.tmp 25)] rfl GA [(1,agg OA),(2,agg TA)] ?_ HB ?_;rfl)|refine bJ GA lM X1 (by rw[U];rfl) R ?_);have⟨E,abU,KD⟩:=HY;refine uY (an _ _ _ _ _ _ lM) hdg hga X1 ?_;have KR:Kp (λk=>k=w.heap.size+1) w5 (w5.setRow (w.heap.size+1) GA):=Kp.setRow (S:=λk=>k=w.heap.size+1) (Kp.refl _ _) (g:=w.heap.size+1) (λ_=>rfl) _;have hN:∀{base e size v n xs},w5.ownsRow base e size v n xs->e≠119->∀i,v.ownBlock=some i->¬i=w.heap.size+1:=by
  intro base e size v n xs ho he i hi Y;have⟨cur,hc⟩:=bC ho hi;rw[Y,lM]at hc;simp at hc;exact he hc.2.symm
 rw[HE,HS,<-HG];refine⟨_,_,_,rfl,⟨rfl,rfl,rfl⟩,⟨lt,lb,λ_=>?_⟩,KD.setRow (λx=>oQ) _⟩;rw[HG,a6];exact⟨KR.owns E.ah (hN E.ah aV),E.G8,KR.owns E.dF (hN E.dF aV),λx Y=>KR.owns (E.kZ x Y) (hN (E.kZ x Y) aV),E.Kj,KR.owns E.fH (hN E.fH aV),λx Y=>KR.owns (E.uo x Y) (hN (E.uo x Y) aV)⟩
namespace Ch
theorem Jv{ol}:∀{n} {s} {l} {r},s.Ok->eP ol n s l=some r->r.1.Ok:=by
 intro n;induction n with
 |zero=>grind[eP]
 |succ n D=>?_
 grind[eP,rh,xw]
def mX(n:Nat)(t:ByteArray)(a:As):As×ByteArray×Int:=
 if oH t a !=0 then(kJ,⟨#[]⟩,oH t a)else match eP (read t).2.2 n (tick (qO t a)) []with
  |some r=>(bX (read t).2.2.ah r.1,r.2,0)
  |none=>(kJ,⟨#[]⟩,0)
theorem WT{t}:∀ f k,Hs t f k=true->t.size<=k+2*f->(t.size-k) % 2=0->∀j,k<=j->j<t.size->1<=af t j:=by
 intro f;induction f with
 |zero=>intro k _ F _ j D E;omega
 |succ f G=>?_
 intro k h F hm j D E;simp only[Hs]at h;split at h
 ·rename_i q;split at h
  ·rename_i I;simp only[fQ,Bool.not_eq_true',decide_eq_false_iff_not,ez,lV]at I;rcases j5 j (k+2)with e|e
   ·rcases Nat.eq_or_lt_of_le D with e2|e2
    ·subst e2;omega
    obtain rfl:j=k+1:=oQ;omega
   exact G (k+2) h oQ oQ j e E
  simp at h
 omega
theorem QM{t}(h:mJ t=true):∀j,j<t.size->1<=af t j:=by
 unfold mJ at h;split at h
 ·simp at h
 rename_i q;simp only[mz,bne_iff_ne,lV,not_or,Decidable.not_not]at q;intro j D;exact WT t.size 0 h oQ oQ j (aA _) D
theorem Ot{ss a p t x y z}(h:(take ss a p t x y z).1=true):mJ (take ss a p t x y z).2.tm=true:=by
 grind[take]
theorem WU{t a}(h:oH t a=0):(read t).1=0/\(gP (read t).2.2.ah a).1=true/\qO t a=(gP (read t).2.2.ah a).2:=by
 unfold oH at h;unfold qO;split at h
 ·rename_i q;simp at q;exact absurd h q
 rename_i q;split at h
 ·rename_i D;exact⟨by simpa using q,D,by rw[ax q,aq D]⟩
 simp at h
theorem Uv t a:(qO t a).Ok:=by
 unfold qO;split
 ·exact F0
 split
 ·exact yl
 exact F0
end Ch
theorem GI{w:World}{cb}{e}{sv}{tv}{bv}{s}{T}(h:w.heap[cb]? =some (cells (yY e sv tv bv s) T (0,0))):∀j v,(aN s)[j]? =some v->w.cell? ⟨cb,6+j,none⟩=some v:=by
 intro j v D;rw[World.cell?,h];show((([Value.int i64 e,int i64 0,int i64 0,sv,tv,bv]++aN s).toArray)[6+j]?)=some v;rw[gX,iy dy];simpa using D
theorem Pl.abV{w cb B ol e sv tv bv s lt lb}(h:w.heap[cb]? =some (cells (yY e sv tv bv s) 119 (0,0)))(F:Bw w B ol sv tv bv lt lb):Pl w cb 1 ol:=
 ⟨sv,tv,bv,lt,lb,B,_,_,⟨h,inr (inl rfl),rfl,rfl,rfl⟩,F⟩
theorem QN w n(hn:n<=1000)t a(ha:a.Sm)(hw:oH t a=0->(eP (Ch.read t).2.2 n (Ch.tick (qO t a)) []).isSome=true):
 Calls prog 48 #[string t,agg (cM a)] w λx w'=>x=returned (tuple #[agg (cM (mX n t a).1),string (mX n t a).2.1,int i64 (mX n t a).2.2])/\Kp bA w w':=by
 have⟨da,jx,dQ⟩:=kz;have⟨ds,hds,iT⟩:=g7;have X:((w.alloc (cells (cM a) 26)).alloc (cells cG 26)).heap[w.heap.size]? =some (cells (cM a) 26):=by
  rw[cE _ _ _ dy];exact ak _ _
 have ab:((w.alloc (cells (cM a) 26)).alloc (cells cG 26)).heap[w.heap.size+1]? =some (cells cG 26):=jM w _ _;have K1:Kp bA w ((w.alloc (cells (cM a) 26)).alloc (cells cG 26)):=((Kp.refl _ _).alloc _).alloc _;have E0:=ag (zV ((w.alloc (cells (cM a) 26)).alloc (cells cG 26)) t a ha);have Y:=ux t;have R:=Uv t a;have aa:oH t a=0->∀k,k<(qO t a).tm.size->1<=af (qO t a).tm k:=by
  intro h;have⟨_,h2,h3⟩:=WU h;rw[h3];exact QM (Ot h2)
 have HU:=ag (show mX n t a=if oH t a !=0 then(kJ,⟨#[]⟩,oH t a)else match eP (Ch.read t).2.2 n (Ch.tick (qO t a)) []with
  |some r=>(bX (Ch.read t).2.2.ah r.1,r.2,0)
  |none=>(kJ,⟨#[]⟩,0)from rfl)
 generalize tR:cM a=AA at X ab K1 E0⊢;have aI:(prog.info? 26).map (·.size)=some AA.size:=by rw[<-tR];exact bF
 generalize oH t a=le at*;generalize qO t a=ls at*;generalize (Ch.read t).2.2=ol at*;go_in;go_upto_region 1 with fail;generalize (w.alloc (cells AA 26)).alloc (cells cG 26)=w1 at*;go_wp2_with (refine gV X jx dQ aI ?_);refine fu E0 ?_;rintro x G ⟨sv,tv,bv,lt,lb,rfl,⟨o1,o2,o3⟩,F2,K2⟩;have ad:=K2.at_ ab (λx=>x);have KA:=K1.trans K2;have gI:=tE le sv tv bv R.1;have gS:=q_ le sv tv bv R.1;have gO:=wB le o1 o2 o3 ls;have E:=ak G (cells rO 119);have D:=an (G.alloc (cells rO 119)) G.heap.size _ (yY le sv tv bv ls) 119 (0,0) E;have K3:=rQ G (cells rO 119) (yY le sv tv bv ls);have F:=K3.at_ ad (λx=>x);have KB:=KA.trans K3;have U:le=0->Bw ((G.alloc (cells rO 119)).setRow G.heap.size (yY le sv tv bv ls)) w1.heap.size ol sv tv bv lt lb:=λh=>(F2 h).aw K3;have aO:w.heap.size+1<G.heap.size:=aR ad;have z0:((G.alloc (cells rO 119)).setRow G.heap.size (yY le sv tv bv ls)).cell? ⟨G.heap.size,0,none⟩=some (int i64 le):=dG D rfl;have eK:=GI D;have HX:=fM U F KB D;generalize RW:yY le sv tv bv ls=GA at*;have aj:=ag RW;go_upto_region 2 with(refine bJ GA E gI (by rw[gS];rfl) gO ?_);generalize (G.alloc (cells rO 119)).setRow G.heap.size GA=O at*;generalize G.heap.size=cb at*;cases q1:le !=0 with
 |true=>
  have HF:=ag (HU.trans (show _=(kJ,(⟨#[]⟩:ByteArray),le)by rw[q1];rfl));go_upto_region 3 with fail;have⟨U,F,KB,D⟩:=HX;have J:O.drew.cell? ⟨cb,0,none⟩=some (int i64 le):=z0;have ao:cb≠w.heap.size+1:=oQ;have Q:(O.drew.setRow (w.heap.size+1) cG).cell? ⟨cb,0,none⟩=some (int i64 le):=by
   have e:(O.drew.setRow (w.heap.size+1) cG).heap[cb]? =O.drew.heap[cb]?:=cN _ _ _ _ ao;unfold World.cell? at*;simp only at*;rw[e];exact J
  have KF:Kp bA w (O.drew.setRow (w.heap.size+1) cG):=(KB.drewN 1).setRow (λx=>oQ) _;refine aY (λw'=>w'.cell? ⟨cb,0,none⟩=some (int i64 le)) bZ ?_;refine iU 0 16 (agg cG) rfl (λw' _=>eU 26 #[] rfl cG [] rfl bZ) J ?_;refine iU 1 17 (pointer (some ⟨cb,0,none⟩)) rfl sr J ?_;refine iU 2 18 (int i64 le) rfl (λw' hS=>by simp[execOp,Act.eval,Act.put,go_sem,hS]) J ?_;refine cQ 3 bZ rfl rfl 26 (tmp 4) (tmp 16) rfl rfl (w.heap.size+1) cG rM rM 26 cG (by exact F) bF rfl (fK kJ) Q ?_;refine iU 4 5 (string ⟨#[]⟩) rfl (λw' _=>by rfl) Q ?_;refine iU 5 6 (int i64 le) rfl sr Q ?_;refine bG bZ (bH ?_) _;simp only[Act.put,pA,pB,pC];go_wp2;refine aJ (az rfl _ _ (w.heap.size+1) 26 cG (0,0) da rfl (an O.drew _ _ _ _ _ (by exact F)) jx dQ bF) rfl ?_;rw[HF];exact⟨rfl,KF⟩
 |false=>?_
 have am:le=0:=cX q1;subst am;have⟨r,hr⟩:=qE.1 (hw rfl);have HF:=ag (HU.trans (show _=(bX ol.ah r.1,r.2,(0:Int))by rw[hr];rfl));have⟨U,F,KB,D⟩:=HX;have Z:Pl O cb 1 ol:=Pl.abV (by rw[aj];exact D) (U rfl);have E1:=ag (Ec O cb 1 ol ls n r hr hn (aa rfl) R Z Y);have WV:=Jv (yp R) hr;have Pn:(prog.info? 95).map (·.size)=some (aN ls).length:=by rw[dp R.1];exact dh
 have HZ:=ag Z;have⟨rs,rt⟩:=r;simp only at WV HF E1;have fI:=iD WV.1;have fS:=jc WV.1;have fO:=mK rs;go_wp2_with (refine bS rfl 95 (tmp 21) rfl cb 6 rfl (aN ls) ds eK hds iT Pn ?_);refine b9 E1 ?_;intro I K4;have⟨U,F,KB,D⟩:=HX;have A9:=HZ.aB K4 (λ_ _ _ _ _ x=>x);have ap:=K4.at_ F (λx=>x);have KC:=KB.trans K4;have E:=ak I (cells cB 95);have uO:=an (I.alloc (cells cB 95)) I.heap.size cB (aN rs).toArray 95 (0,0) E;have K5:=rQ I (cells cB 95) (aN rs).toArray;have h5:=fq.vE uO;have LC:=A9.aB K5 (λ_ _ _ _ _ x=>x);have lM:=K5.at_ ap (λx=>x);have KD:=KC.trans K5;have E2:=ag (oK cb 1 ((I.alloc (cells cB 95)).setRow I.heap.size (aN rs).toArray) ol.ah I.heap.size 0 [] rs [] 95 LC.str (by have:=Y.ah;omega) h5 WV.1 rfl);have HY:=bw lM KD;generalize (aN rs).toArray=FA at*;go_upto_region 5 with(refine bJ FA E fI (by rw[fS];rfl) fO ?_);generalize (I.alloc (cells cB 95)).setRow I.heap.size FA=w5 at*;generalize I.heap.size=fb at*;go_wp;refine b9 E2 ?_;intro w6 K6;have⟨lM,KD⟩:=HY;have pe:=K6.at_ lM (λx=>x);have KF:Kp bA w (w6.setRow (w.heap.size+1) (cM (bX ol.ah rs))):=(KD.trans K6).setRow (λx=>oQ) _;go_wp2_with (refine bJ (cM (bX ol.ah rs)) pe bF rfl (fK _) ?_);refine aJ (az rfl _ _ (w.heap.size+1) 26 (cM (bX ol.ah rs)) (0,0) da rfl (an _ _ _ _ _ _ pe) jx dQ bF) rfl ?_;rw[HF];exact⟨rfl,KF⟩
namespace Ch
def Fh(t:ByteArray)(a:As)(ev:ByteArray):As×ByteArray×Int:=
 if oH t a !=0 then(kJ,⟨#[]⟩,oH t a)else if decide (ev.size=1)&&ez (af ev 0)then
  (if(bY (read t).2.2 (qO t a) (af ev 0)).2.2 !=0 then(kJ,⟨#[]⟩,(bY (read t).2.2 (qO t a) (af ev 0)).2.2)
   else(bX (read t).2.2.ah (bY (read t).2.2 (qO t a) (af ev 0)).1,(bY (read t).2.2 (qO t a) (af ev 0)).2.1,0))else(kJ,⟨#[]⟩,8)
end Ch
theorem QO w t a ev(ha:a.Sm):
 Calls prog 31 #[string t,agg (cM a),string ev] w λx w'=>x=returned (tuple #[agg (cM (Fh t a ev).1),string (Fh t a ev).2.1,int i64 (Fh t a ev).2.2])/\Kp bA w w':=by
 have⟨da,jx,dQ⟩:=kz;have⟨ds,hds,iT⟩:=g7;have ad:((w.alloc (cells (cM a) 26)).alloc (cells cG 26)).heap[w.heap.size]? =some (cells (cM a) 26):=by
  rw[cE _ _ _ (by simp)];exact ak _ _
 have ao:((w.alloc (cells (cM a) 26)).alloc (cells cG 26)).heap[w.heap.size+1]? =some (cells cG 26):=jM w _ _;have K1:Kp bA w ((w.alloc (cells (cM a) 26)).alloc (cells cG 26)):=((Kp.refl _ _).alloc _).alloc _;have E0:=ag (zV ((w.alloc (cells (cM a) 26)).alloc (cells cG 26)) t a ha);have aj:=ux t;have CJ:=Uv t a
 have HU:=ag (show Fh t a ev=if oH t a !=0 then(kJ,⟨#[]⟩,oH t a)else if decide (ev.size=1)&&ez (af ev 0)then
  (if(bY (Ch.read t).2.2 (qO t a) (af ev 0)).2.2 !=0 then(kJ,⟨#[]⟩,(bY (Ch.read t).2.2 (qO t a) (af ev 0)).2.2)
   else(bX (Ch.read t).2.2.ah (bY (Ch.read t).2.2 (qO t a) (af ev 0)).1,(bY (Ch.read t).2.2 (qO t a) (af ev 0)).2.1,0))else(kJ,⟨#[]⟩,8)from rfl)
 generalize tR:cM a=AA at ad ao K1 E0⊢;generalize oH t a=le at*;generalize qO t a=ls at*;generalize (Ch.read t).2.2=ol at*;go_enter func31,ntmps31;go_upto_region 1 with fail;generalize (w.alloc (cells AA 26)).alloc (cells cG 26)=w1 at*;go_wp2_with (refine gV ad jx dQ (by rw[<-tR];exact bF:(prog.info? 26).map (·.size)=some AA.size) ?_);refine hm E0 ?_;rintro x O ⟨sv,tv,bv,lt,lb,rfl,⟨o1,o2,o3⟩,F2,K2⟩;have ap:=K2.at_ ao (λx=>x);have KA:=K1.trans K2;have gI:=tE le sv tv bv CJ.1;have gS:=q_ le sv tv bv CJ.1;have gO:=wB le o1 o2 o3 ls;have G:=ak O (cells rO 119);have D:=an (O.alloc (cells rO 119)) O.heap.size _ (yY le sv tv bv ls) 119 (0,0) G;have K3:Kp bA O ((O.alloc (cells rO 119)).setRow O.heap.size (yY le sv tv bv ls)):=((Kp.refl _ _).alloc _).setRow (λx=>by omega) _;have F:=K3.at_ ap (λx=>x);have KB:=KA.trans K3;have F3:le=0->Bw ((O.alloc (cells rO 119)).setRow O.heap.size (yY le sv tv bv ls)) w1.heap.size ol sv tv bv lt lb:=λh=>(F2 h).aw K3;have a2:w.heap.size+1<O.heap.size:=aR ap;have z0:((O.alloc (cells rO 119)).setRow O.heap.size (yY le sv tv bv ls)).cell? ⟨O.heap.size,0,none⟩=some (int i64 le):=by rw[World.cell?,D];rfl
 have eK:=GI D;have HX:=fM F3 F KB D;generalize RW:yY le sv tv bv ls=U at*;have ab:=ag RW;go_upto_region 2 with(refine bJ U G gI (by rw[gS];rfl) gO ?_);generalize (O.alloc (cells rO 119)).setRow O.heap.size U=w3 at*;generalize O.heap.size=cb at*;cases q1:le !=0 with
 |true=>
  have X:=ag (HU.trans (show _=(kJ,(⟨#[]⟩:ByteArray),le)by rw[q1];rfl));go_upto_region 3 with fail;have⟨F3,F,KB,D⟩:=HX;have E:w3.drew.cell? ⟨cb,0,none⟩=some (int i64 le):=z0;have aO:cb≠w.heap.size+1:=by omega
  have aa:(w3.drew.setRow (w.heap.size+1) cG).cell? ⟨cb,0,none⟩=some (int i64 le):=by
   have e:(w3.drew.setRow (w.heap.size+1) cG).heap[cb]? =w3.drew.heap[cb]?:=cN _ _ _ _ aO;unfold World.cell? at*;simp only at*;rw[e];exact E
  have Y:Kp bA w (w3.drew.setRow (w.heap.size+1) cG):=(KB.drewN 1).setRow (λx=>by omega) _;refine aY (λw'=>w'.cell? ⟨cb,0,none⟩=some (int i64 le)) (by kernel_rfl) ?_;refine iU 0 19 (agg cG) rfl (λw' _=>eU 26 #[] rfl cG [] rfl (by kernel_rfl)) E ?_;refine iU 1 20 (pointer (some ⟨cb,0,none⟩)) rfl (λw' _=>by simp[execOp,Act.eval,Act.put,go_sem]) E ?_;refine iU 2 21 (int i64 le) rfl (λw' hS=>by simp[execOp,Act.eval,Act.put,go_sem,hS]) E ?_;refine cQ 3 (by kernel_rfl) rfl rfl 26 (tmp 6) (tmp 19) rfl rfl (w.heap.size+1) cG (by simp[Act.eval,Act.put]) (by simp[Act.eval,Act.put]) 26 cG (by exact F) bF rfl (fK kJ) aa ?_;refine iU 4 7 (string ⟨#[]⟩) rfl (λw' _=>by rfl) aa ?_;refine iU 5 8 (int i64 le) rfl (λw' _=>by simp[execOp,Act.eval,Act.put,go_sem]) aa ?_;refine bG (by kernel_rfl) (bH ?_) _;simp only[Act.put,pA,pB,pC];go_wp2;refine aJ (az rfl _ _ (w.heap.size+1) 26 cG (0,0) da rfl (an w3.drew _ _ _ _ _ (by exact F)) jx dQ bF) rfl ?_;rw[X];exact⟨rfl,Y⟩
 |false=>?_
 have aI:le=0:=by simpa using q1
 subst aI
 have HV:=ag (HU.trans (show _=if decide (ev.size=1)&&ez (af ev 0)then
  (if(bY ol ls (af ev 0)).2.2 !=0 then(kJ,(⟨#[]⟩:ByteArray),(bY ol ls (af ev 0)).2.2)
   else(bX ol.ah (bY ol ls (af ev 0)).1,(bY ol ls (af ev 0)).2.1,0))else(kJ,⟨#[]⟩,8)from rfl))
 by_cases hs:ev.size=1
 ·have aS:(ev.size:Int)=1:=by omega
  have am:af ev 0=((ev[0]'(by omega)).toNat:Int):=by simp[af,hs]
  rw[am]at HV;have EV:=ag (kW ((ev[0]'(by omega)).toNat:Int) w3);cases q2:ez ((ev[0]'(by omega)).toNat:Int)with
  |false=>
   rw[q2]at EV;have X:=ag (HV.trans (show _=(kJ,(⟨#[]⟩:ByteArray),(8:Int))by rw[q2];simp));go_wp;refine hm EV ?_;rintro x I ⟨rfl,rfl⟩;have⟨F3,F,KB,D⟩:=HX;have Y:Kp bA w (I.setRow (w.heap.size+1) cG):=KB.setRow (λx=>by omega) _;go_wp2_with (refine bJ cG F bF rfl (fK kJ) ?_);refine aJ (az rfl _ _ (w.heap.size+1) 26 cG (0,0) da rfl (an _ _ _ _ _ _ F) jx dQ bF) rfl ?_;rw[X];exact⟨rfl,Y⟩
  |true=>?_
  rw[q2]at EV;have a0:ev[0]? =some (ev[0]'(by omega)):=by rw[getElem?_pos]
  generalize hc:((ev[0]'(by omega)).toNat:Int)=c at*
  have HW:=ag (HV.trans (show _=if(bY ol ls c).2.2 !=0 then(kJ,(⟨#[]⟩:ByteArray),(bY ol ls c).2.2)
   else(bX ol.ah (bY ol ls c).1,(bY ol ls c).2.1,0)by rw[q2];simp[hs]))
  go_wp;refine hm EV ?_;rintro x I ⟨rfl,rfl⟩;have⟨F3,F,KB,D⟩:=HX;have sD:=rh (ol:=ol) CJ c;have E1:∀W,Pl W cb 1 ol->Hid (Calls prog 57 #[pointer (some ⟨cb,1,none⟩),agg (aN ls).toArray,int .u8 c] W λx w'=>x=returned (tuple #[agg (aN (bY ol ls c).1).toArray,string (bY ol ls c).2.1,int i64 (bY ol ls c).2.2])/\Kp bA W w'):=λW h=>ag (zy W cb 1 ol ls c CJ h aj);have HZ:=bw (Pl.abV (by rw[ab];exact D) (F3 (by first|rfl|trivial)):Pl I cb 1 ol) D;generalize a3:bY ol ls c=mf at*;have⟨fs,ft,fe⟩:=mf;simp only at sD HW E1;have fI:=iD sD.1;have fS:=jc sD.1;have fO:=mK fs;generalize Io:(aN fs).toArray=Z at*;have Ps:=ag Io;go_upto_region 6 with fail;go_cut [10,11,12]from 32 to 41 (λp e f wx=>∃fb,p= pointer (some ⟨fb,0,none⟩)/\e= string ft/\f= int i64 fe/\fq wx fb [] fs [] 95/\Kp bA I wx)
  case first=>
   have E:I.drew.heap[cb]? =some (cells U 119 (0,0)):=D;have An:Kp bA I I.drew:=(Kp.refl _ _).drewN 1;have a1:(af ev 0)=c:=by rw[am]
   refine aY (λw'=>w'.heap[cb]? =some (cells U 119 (0,0))) (by kernel_rfl) ?_;refine iU 0 33 (pointer (some ⟨cb,1,none⟩)) rfl (λw' _=>by simp[execOp,Act.eval,go_sem]) E ?_;refine iU 1 34 (pointer (some ⟨cb,6,none⟩)) rfl (λw' _=>by simp[execOp,Act.eval,Act.put,go_sem]) E ?_;refine iU 2 35 (agg (aN ls).toArray) rfl (λw' hS=>eT 95 (tmp 34) rfl cb 6 (by simp[Act.eval,Act.put]) (aN ls) ds ((λw' h=>GI (by rw[ab];exact h):∀w':World,w'.heap[cb]? =some (cells U 119 (0,0))->∀j v,(aN ls)[j]? =some v->w'.cell? ⟨cb,6+j,none⟩=some v) w' hS) hds iT (by rw[dp CJ.1];exact dh:(prog.info? 95).map (·.size)=some (aN ls).length)) E ?_;refine iU 3 36 (string ev) rfl (λw' _=>by simp[execOp,Act.eval,Act.put,go_sem]) E ?_;refine fh 4 37 (int .u8 c) rfl (λw' _=>by simp[execOp,Act.eval,Act.put,go_sem,hs,hc]) E ?_;refine qZ 5 10 (by kernel_rfl) rfl rfl rfl rfl ?_ ?_
   ·refine er (some 38) rfl 57 #[pointer (some ⟨cb,1,none⟩),agg (aN ls).toArray,int .u8 c] (by simp[execOp,Act.eval,go_sem]) _ (λw'=>Kp bA I.drew w') (E1 I.drew (HZ.1.aB An (λ_ _ _ _ _ x=>x))).out ?_;intro Q R;have J:=R.at_ E (λx=>x);have G:=ak Q (cells cB 95);have X_:(Q.alloc (cells cB 95)).heap[cb]? =some (cells U 119 (0,0)):=(cE _ _ _ (aR J)).trans J;have DN:((Q.alloc (cells cB 95)).setRow Q.heap.size Z).heap[cb]? =some (cells U 119 (0,0)):=by rw[cN _ _ _ _ (by have:=aR J;omega:cb≠Q.heap.size)];exact X_
    refine⟨J,?_⟩;refine iU 6 32 (tuple #[agg Z,string ft,int i64 fe]) rfl (λw' _=>by simp[execOp,Act.eval,Act.put,go_sem]) J ?_;refine iU 7 39 (agg Z) rfl (λw' _=>by simp[execOp,Act.eval,Act.put,go_sem]) J ?_;refine iU 8 40 (string ft) rfl (λw' _=>by simp[execOp,Act.eval,Act.put,go_sem]) J ?_;refine iU 9 41 (int i64 fe) rfl (λw' _=>by simp[execOp,Act.eval,Act.put,go_sem]) J ?_;refine pf 10 ?_;refine gA (some 10) rfl (pointer (some ⟨Q.heap.size,0,none⟩)) (Q.alloc (cells cB 95)) (by simp[execOp,go_sem]) ?_;refine⟨X_,?_⟩;refine cQ 11 (by kernel_rfl) rfl rfl 95 (tmp 10) (tmp 39) rfl rfl Q.heap.size Z (by simp[Act.eval,Act.put]) (by simp[Act.eval,Act.put]) 95 cB G fI (by rw[fS];rfl) fO DN ?_;refine iU 12 11 (string ft) rfl (λw' _=>by simp[execOp,Act.eval,Act.put,go_sem]) DN ?_;refine iU 13 12 (int i64 fe) rfl (λw' _=>by simp[execOp,Act.eval,Act.put,go_sem]) DN ?_;refine bG (by kernel_rfl) (bH ?_) _;simp only[Act.put,pA,pB,pC];go_wp2;go_meet;exact⟨Q.heap.size,rfl,rfl,rfl,fq.vE (by rw[Ps];exact an _ _ _ _ _ _ G),((An.trans R).alloc _).setRow (λx=>by have:=(An.trans R).size;omega) _⟩
   refine gA (some 10) rfl (pointer (some ⟨I.heap.size,0,none⟩)) (I.drew.alloc (cells cB 95)) (by simp[execOp,go_sem]) ?_;have G:=ak I.drew (cells cB 95);have Ou:=An.alloc (cells cB 95);have Ya:(I.drew.alloc (cells cB 95)).heap[cb]? =some (cells U 119 (0,0)):=(cE _ _ _ (aR E)).trans E;refine⟨Ya,?_⟩;refine pf 5 ?_;simp only[Act.put,pA,pB,pC];refine er (some 38) rfl 57 #[pointer (some ⟨cb,1,none⟩),agg (aN ls).toArray,int .u8 c] (by simp[execOp,Act.eval,go_sem]) _ (λw'=>Kp bA (I.drew.alloc (cells cB 95)) w') (E1 _ (HZ.1.aB Ou (λ_ _ _ _ _ x=>x))).out ?_;intro Q R;have J:=R.at_ Ya (λx=>x);have kE:Q.heap[I.heap.size]? =some (cells cB 95 (0,0)):=R.at_ (k:=I.heap.size) (by exact G) (λx=>x);have DN:(Q.setRow I.heap.size Z).heap[cb]? =some (cells U 119 (0,0)):=by rw[cN _ _ _ _ (by have:=aR E;have e:I.drew.heap.size=I.heap.size:=rfl;omega:cb≠I.heap.size)];exact J
   refine⟨J,?_⟩;refine iU 6 32 (tuple #[agg Z,string ft,int i64 fe]) rfl (λw' _=>by simp[execOp,Act.eval,Act.put,go_sem]) J ?_;refine iU 7 39 (agg Z) rfl (λw' _=>by simp[execOp,Act.eval,Act.put,go_sem]) J ?_;refine iU 8 40 (string ft) rfl (λw' _=>by simp[execOp,Act.eval,Act.put,go_sem]) J ?_;refine iU 9 41 (int i64 fe) rfl (λw' _=>by simp[execOp,Act.eval,Act.put,go_sem]) J ?_;refine cQ 11 (by kernel_rfl) rfl rfl 95 (tmp 10) (tmp 39) rfl rfl I.heap.size Z (by simp[Act.eval,Act.put]) (by simp[Act.eval,Act.put]) 95 cB kE fI (by rw[fS];rfl) fO DN ?_;refine iU 12 11 (string ft) rfl (λw' _=>by simp[execOp,Act.eval,Act.put,go_sem]) DN ?_;refine iU 13 12 (int i64 fe) rfl (λw' _=>by simp[execOp,Act.eval,Act.put,go_sem]) DN ?_;refine bG (by kernel_rfl) (bH ?_) _;simp only[Act.put,pA,pB,pC];go_wp2;go_meet;exact⟨I.heap.size,rfl,rfl,rfl,fq.vE (by rw[Ps];exact an _ _ _ _ _ _ kE),(Ou.trans R).setRow (λx=>by omega) _⟩
  case rest=>
   obtain⟨fb,rfl,rfl,rfl,h5,R⟩:=hcut;have⟨F3,F,KB,_⟩:=HX;have LC:=HZ.1.aB R (λ_ _ _ _ _ x=>x);have lM:=R.at_ F (λx=>x);have KD:=KB.trans R;have HY:=bw lM KD;have E2:=ag (oK cb 1 wc ol.ah fb 0 [] fs [] 95 LC.str (by have:=aj.ah;omega) h5 sD.1 rfl);cases q3:fe !=0 with
   |true=>
    have X:=ag (HW.trans (show _=(kJ,(⟨#[]⟩:ByteArray),fe)by rw[q3];rfl));have Y:Kp bA w (wc.setRow (w.heap.size+1) cG):=KD.setRow (λx=>by omega) _;go_wp2_with (refine bJ cG lM bF rfl (fK kJ) ?_);refine aJ (az rfl _ _ (w.heap.size+1) 26 cG (0,0) da rfl (an _ _ _ _ _ _ lM) jx dQ bF) rfl ?_;rw[X];exact⟨rfl,Y⟩
   |false=>?_
   have X:=ag (HW.trans (show _=(bX ol.ah fs,ft,(0:Int))by rw[q3];rfl));go_wp;refine b9 E2 ?_;intro w6 K6;have⟨lM,KD⟩:=HY;have pe:=K6.at_ lM (λx=>x);have Y:Kp bA w (w6.setRow (w.heap.size+1) (cM (bX ol.ah fs))):=(KD.trans K6).setRow (λx=>by omega) _;go_wp2_with (refine bJ (cM (bX ol.ah fs)) pe bF rfl (fK _) ?_);refine aJ (az rfl _ _ (w.heap.size+1) 26 (cM (bX ol.ah fs)) (0,0) da rfl (an _ _ _ _ _ _ pe) jx dQ bF) rfl ?_;rw[X];exact⟨rfl,Y⟩
 have aS:¬(ev.size:Int)=1:=by omega
 have X:=ag (HV.trans (show _=(kJ,(⟨#[]⟩:ByteArray),(8:Int))by simp[hs]));have⟨F3,F,KB,D⟩:=HX;have Y:Kp bA w (w3.setRow (w.heap.size+1) cG):=KB.setRow (λx=>by omega) _;go_wp2_with (refine bJ cG F bF rfl (fK kJ) ?_);refine aJ (az rfl _ _ (w.heap.size+1) 26 cG (0,0) da rfl (an _ _ _ _ _ _ F) jx dQ bF) rfl ?_;rw[X];exact⟨rfl,Y⟩
theorem ML w t a(ha:a.Sm):
 Calls prog 54 #[string t,agg (cM a)] w λx w'=>x=returned (int i64 (oH t a))/\Kp bA w w':=by
 have⟨da,jx,dQ⟩:=kz;have F:=ak w (cells (cM a) 26);have I:=kG w (cells (cM a) 26);have O:=ag (zV (w.alloc (cells (cM a) 26)) t a ha);have R:(qO t a).Wf:=by
  unfold qO;split
  ·exact nH
  split
  ·exact VW _ _ _ _ _ _ _
  exact nH
 generalize tR:cM a=J at F I O⊢;have Y:(prog.info? 26).map (·.size)=some J.size:=by rw[<-tR];exact bF
 go_in;go_upto_region 1 with fail;generalize w.alloc (cells J 26)=w1 at*;go_wp2_with (refine gV F jx dQ Y ?_);refine hm O ?_;rintro x E ⟨sv,tv,bv,lt,lb,rfl,⟨o1,o2,o3⟩,_,Q⟩;have Z:=tE (oH t a) sv tv bv R;have gS:=q_ (oH t a) sv tv bv R;have gO:=wB (oH t a) o1 o2 o3 (qO t a);have D:=ak E (cells rO 119);have G:=an (E.alloc (cells rO 119)) E.heap.size _ (yY (oH t a) sv tv bv (qO t a)) 119 (0,0) D;have X:Kp bA w ((E.alloc (cells rO 119)).setRow E.heap.size (yY (oH t a) sv tv bv (qO t a))):=((I.trans Q).alloc _).setRow (λx=>by have:=(I.trans Q).size;omega) _;have z0:((E.alloc (cells rO 119)).setRow E.heap.size (yY (oH t a) sv tv bv (qO t a))).cell? ⟨E.heap.size,0,none⟩=some (int i64 (oH t a)):=dG G rfl;generalize yY (oH t a) sv tv bv (qO t a)=U at*;go_wp2_with (refine bJ U D Z (by rw[gS];rfl) gO ?_);go_ret;exact⟨rfl,X⟩
def ndA(s:St):Array Value:=#[string (strOfNums [s.name]),int i64 s.kind,int i64 s.parent]
theorem ZA:(prog.info? 111).map (·.size)=some 3:=bZ
theorem abX:∃d,prog.underlying 111=some d/\ee d=true:=⟨_,underlying111,rfl⟩
theorem Uw v k p:prog.built 111 [(0,string v),(1,int i64 k),(2,int i64 p)]=some #[string v,int i64 k,int i64 p]:=bZ
theorem MM w s:
 Calls prog 78 #[agg #[int .u8 s.name,int i64 s.pos,int i64 s.kind,int i64 s.parent]] w λx w'=>x=returned (agg (ndA s))/\Kp bA w w':=by
 have⟨D,jx,dQ⟩:=abX;have E:dW (((w.alloc (cells #[int .u8 s.name,int i64 s.pos,int i64 s.kind,int i64 s.parent] 155)).alloc (cells #[string ⟨#[]⟩,int i64 0,int i64 0] 111)).alloc (cells #[int .u8 s.name] 5)) 0 (slice (some ⟨w.heap.size+2,0,none⟩) 1 1) (aF [s.name]):=
  inr ⟨w.heap.size+2,0,1,#[int .u8 s.name],rfl,aA _,by
   have:=ak ((w.alloc (cells #[int .u8 s.name,int i64 s.pos,int i64 s.kind,int i64 s.parent] 155)).alloc (cells #[string ⟨#[]⟩,int i64 0,int i64 0] 111)) (cells #[int .u8 s.name] 5);simpa using this,by simp[aF],dy,by intro j u G;simpa[aF]using G⟩
 have F:=mL E;clear E;go_in;go_wp2;refine aJ (results_cell_row rfl _ _ (w.heap.size+1) 111 (ndA s) (0,0) D rfl ?_ jx (by cases D<;>first|rfl|exact absurd dQ (by simp[ee])) ZA) rfl ?_
 ·rw[cE _ _ _ dy];exact jM w _ _
 exact⟨rfl,(((Kp.refl _ _).alloc _).alloc _).alloc _⟩
theorem CK:(prog.info? 111).map (λi=>(i.zero,i.size,i.bytes))=some (some (agg #[string ⟨#[]⟩,int i64 0,int i64 0]),3,32):=bZ
def RX(w:World)(g n k:Nat)(ss:List St):Prop:=∃C,w.heap[g]? =some (cells C 111 (0,0))/\C.size=n*3/\∀i s,i<k->ss[i]? =some s->∀j,j<3->C[i*3+j]? =(ndA s)[j]?
theorem RX.set{w g n k ss s}(h:RX w g n k ss)(hs:ss[k]? =some s)(hk:k<n):
 RX (((w.setCell ⟨g,k*3,none⟩ (string (strOfNums [s.name]))).setCell ⟨g,k*3+1,none⟩ (int i64 s.kind)).setCell ⟨g,k*3+2,none⟩ (int i64 s.parent)) g n (k+1) ss:=by
 have⟨C,hC,iL,hx⟩:=h;have e1:=heap_setCell_same w g (k*3) C 111 (string (strOfNums [s.name])) hC;have e2:=heap_setCell_same _ g (k*3+1) _ 111 (int i64 s.kind) e1;have e3:=heap_setCell_same _ g (k*3+2) _ 111 (int i64 s.parent) e2;refine⟨_,e3,by simp[iL],?_⟩;intro i u hi hu j E;rcases lX (lY hi)with h|h
 ·grind
 subst h;rw[hs]at hu;simp at hu;subst hu;have D:j=0\/j=1\/j=2:=oQ;rcases D with rfl|rfl|rfl
 ·rw[n5 oQ,n5 oQ,kS,qC oQ];rfl
 ·rw[n5 oQ,qC il];rfl
 rw[qC il];rfl
theorem RX.cells{w g n k ss}(h:RX w g n k ss){i}(hi:i<n):
 (∃u,w.cell? ⟨g,i*3,none⟩=some u)/\(∃u,w.cell? ⟨g,i*3+1,none⟩=some u)/\(∃u,w.cell? ⟨g,i*3+2,none⟩=some u)/\∀o,w.frozen? ⟨g,o,none⟩=false:=by
 have⟨C,hC,iL,_⟩:=h;refine⟨⟨C[i*3]'oQ,?_⟩,⟨C[i*3+1]'oQ,?_⟩,⟨C[i*3+2]'oQ,?_⟩,λo=>by simp[World.frozen?,hC]⟩
 ·rw[nt w g _ C _ _ hC];simp_all
 ·rw[nt w g _ C _ _ hC];simp_all
 rw[nt w g _ C _ _ hC];simp_all
theorem QP w t:
 Calls prog 49 #[string t] w λx w'=>∃v,x=returned (tuple #[v,int i64 (Ch.read t).1])/\((Ch.read t).1≠0->v= slice none 0 0)/\
  ((Ch.read t).1=0->∃g,v= slice (some ⟨g,0,none⟩) (Ch.read t).2.2.ah.length (Ch.read t).2.2.ah.length/\w.heap.size<=g/\RX w' g (Ch.read t).2.2.ah.length (Ch.read t).2.2.ah.length (Ch.read t).2.2.ah)/\Kp bA w w':=by
 have⟨i0,hi,hz0,hz1,hz2⟩:=cr CK;have E0:=ag (vp t w);have aa:=ux t;generalize a4:Ch.read t=rd at*;have⟨re,rf,ol⟩:=rd;simp only at E0 aa⊢;have wT:=aa.ah;go_in;go_wp;refine hm E0 ?_;rintro x G ⟨sv,tv,bv,lt,lb,rfl,F2,B2⟩;have K2:=s_ B2;have Ds:=Hn (e:=re) (f:=rf) (gC F2.ah) (gC F2.dF) (gC F2.fH);have E:=ak G (cells Dp 87);have F:=an (G.alloc (cells Dp 87)) G.heap.size _ (wj re rf sv tv bv) 87 (0,0) E;have Q:=rQ G (cells Dp 87) (wj re rf sv tv bv);have D:=Pl.ofRow F (F2.aw Q);have R:=K2.trans Q;have aS:w.heap.size<=G.heap.size:=K2.size;go_upto_region 2 with(refine bJ (wj re rf sv tv bv) E xo rfl Ds ?_);generalize (G.alloc (cells Dp 87)).setRow G.heap.size (wj re rf sv tv bv)=I at*;generalize G.heap.size=ob at*;have z0:I.cell? ⟨ob,0,none⟩=some (int i64 re):=dG F rfl;cases q1:re !=0 with
 |true=>
  have O:re≠0:=cX q1;go_upto_region 3 with fail;go_quiet (fail);go_wp2;go_ret2;exact⟨_,rfl,λ_=>rfl,λh=>absurd h O,R.drewN _⟩
 |false=>?_
 have O:re=0:=cX q1;have⟨ao,cap,c2⟩:=D.str.len;simp only[eG]at c2;have HP:=bw D R;go_wp2_with (at_make;refine wpList_make_full I rfl (tmp 16) (tmp 16) 107 rfl I.heap.size 111 i0 (agg #[string ⟨#[]⟩,int i64 0,int i64 0]) 3 underlying107 hi hz0 hz1 i64 i64 ol.ah.length ol.ah.length ol.ah.length rfl rfl rfl rfl ?c1 ?c2 (aC _) ?_)
 case c1=>rw[hz2];omega
 case c2=>unfold maxLen;omega
 intro w4 o4 g4;have⟨D,R⟩:=HP;have KG:Kp bA I w4:=(Kp.refl _ _).grown g4 (λi hi _=>by simp at hi);have hN:RX w4 I.heap.size ol.ah.length 0 ol.ah:=by
  rcases o4.2 with⟨h,_⟩|⟨g,ap,X,h,hg,hh,hc,_,ad,_⟩
  ·simp at h
  simp only[aH,bE,ei,dV,cA]at h;obtain⟨rfl,rfl⟩:=h;exact⟨X,hh,by first|exact ad|omega,λi s h=>absurd h oQ⟩
 have A9:=D.aB KG (λ_ _ _ _ _ x=>x);have K4:=R.trans KG;have aj:w.heap.size<=I.heap.size:=R.size;have wm:ob<I.heap.size:=by have⟨OI,tv',bv',lt',lb',B',c',T',⟨hb',_⟩,_⟩:=D;exact aR hb'
 generalize I.heap.size=g at*;go_wp;go_loopw [6] (λi wr=>∃k:Nat,i= int i64 k/\k<=ol.ah.length/\RX wr g ol.ah.length k ol.ah/\Kp (λk=>k=g) w4 wr) (λi _=>ol.ah.length-(intOf i).toNat)
 case atStart=>exact⟨0,rfl,aA _,hN,Kp.refl _ _⟩
 case round=>
  obtain⟨k,rfl,hk,Z,U⟩:=hrel;have am:Pl wr ob 0 ol:=A9.aB U (λi X T hi' hT x=>by
   subst x;have⟨C,hC,_⟩:=hN;rw[hC]at hi';simp at hi';obtain⟨_,rfl⟩:=hi';revert hT;unfold Vl oT;decide)
  by_cases J:k<ol.ah.length
  ·have aI:(k:Int)<ol.ah.length:=oQ;obtain⟨s,hs⟩:∃s,ol.ah[k]? =some s:=⟨_,au J⟩
   have⟨gs,cs,c2,a0,a1,a2,a3⟩:=am.str.at_ hs;simp only[eG]at c2;have E1:Hid (Calls prog 78 #[agg #[int .u8 s.name,int i64 s.pos,int i64 s.kind,int i64 s.parent]] wr λx w'=>x=returned (agg #[string (strOfNums [s.name]),int i64 s.kind,int i64 s.parent])/\Kp bA wr w'):=ag (MM wr s);have HX:=bw Z U;go_wp;refine b9 E1 ?_;intro w5 K5;have⟨⟨C,hC,iL,hx⟩,U⟩:=HX;have Y:RX w5 g ol.ah.length k ol.ah:=⟨C,K5.at_ hC (λx=>x),iL,hx⟩
   have⟨⟨u0,d0⟩,⟨u1,d1⟩,⟨u2',d2⟩,fz⟩:=Y.cells J;have ab:=Y.set hs J;have K6:Kp (λk=>k=g) w4 (((w5.setCell ⟨g,k*3,none⟩ (string (strOfNums [s.name]))).setCell ⟨g,k*3+1,none⟩ (int i64 s.kind)).setCell ⟨g,k*3+2,none⟩ (int i64 s.parent)):=
    (((U.trans' K5 (λi _ x=>x.elim)).setCell (p:=⟨g,k*3,none⟩) (λ_=>rfl) _).setCell (p:=⟨g,k*3+1,none⟩) (λ_=>rfl) _).setCell (p:=⟨g,k*3+2,none⟩) (λ_=>rfl) _
   go_wp2;exact⟨⟨k+1,eb,oQ,ab,K6⟩,ew⟩
  have aO:¬(k:Int)<ol.ah.length:=oQ;obtain rfl:k=ol.ah.length:=oQ;have K6:Kp bA w wr:=K4.trans' U (λi hi' x=>oQ);go_wp2;go_ret2;subst O;exact⟨_,rfl,⟨g,rfl,aj,Z⟩,K6⟩
namespace Ch
theorem Ux{t}(h:(read t).1=0):(gy (chart t).2.ah (chart t).2.dH).1=0/\(read t).2.2.ah=(chart t).2.ah:=by
 unfold read at h⊢;split at h
 ·cases h
 rename_i c0;rw[ax c0];split at h
 ·rename_i c1;rw[aq c1];split at h
  ·rename_i c2;rw[aq c2];exact⟨by simpa using c2,rfl⟩
  rename_i c2;simp only at h;rw[h]at c2;simp at c2
 cases h
theorem Jw{L a p tm x y z}(h:iY L a=none):rz L a p tm x y z=false:=by unfold rz;rw[h]
theorem Jx{L a p tm x y z on}(h:iY L a=some on):rz L a p tm x y z=((List.range L.length).all (r_ L on)&&(AN L p&&tM tm&&mj x&&mj y&&mj z)):=by unfold rz;rw[h]
theorem ZB{n k p}(hk:k<n)(h:p k=false):(List.range n).all p=false:=by
 rw[List.all_eq_false];exact⟨k,by simpa using hk,by simp[h]⟩
theorem WW{n p}(h:∀k,k<n->p k=true):(List.range n).all p=true:=by
 rw[kU];intro k hk;exact h k (cX hk)
end Ch
theorem vO w B cb l v a(hF:ku w B cb l v)(hl:l.length<=1000)(ha:a.Sm)(aO:∀(i:Nat) x,l[i]? =some x-> -1<=x.n.parent/\x.n.parent<i):
 Calls prog 144 #[pointer (some ⟨cb,0,none⟩),agg (cM a)] w λx w'=>x=returned (bool (rz (Ch.mk l) a.act a.b_ a.tm a.x a.y a.z))/\Kp bA w w':=by
 have⟨sa,sp,st⟩:=ha;have ab:=ak w (cells (cM a) 26);have K1:=kG w (cells (cM a) 26);have Z:=hF.aw K1;obtain⟨ao,a0,rfl⟩:=hF.2.1.len;have E0:=ag (Ai _ B cb l _ a.act Z hl wY);go_in;go_upto_region 1 with fail;generalize w.alloc (cells (cM a) 26)=w1 at*;generalize w.heap.size=Q at*;have c0:w1.cell? ⟨Q,0,none⟩=some (string a.act):=dG ab rfl;go_wp;refine hm E0 ?_;rintro x w2 ⟨u,rfl,K2,I⟩;cases J:iY (Ch.mk l) a.act with
 |none=>
  have D:=ag (Jw (p:=a.b_) (tm:=a.tm) (x:=a.x) (y:=a.y) (z:=a.z) J);simp only[Option.isSome_none];exact qR D (K1.trans K2)
 |some on=>?_
 have D:=ag (Jx (p:=a.b_) (tm:=a.tm) (x:=a.x) (y:=a.y) (z:=a.z) J);obtain⟨rfl,I,aI⟩:=I on J;simp only[Option.isSome_some];have aj:=K2.at_ ab (λx=>x);have am:=Z.aw K2;have Oh:=K1.trans K2;have U:=fM am aj I Oh;have II:=eu l;go_wp;go_loopw [7] (λiv wr=>∃i:Nat,iv= int i64 i/\i<=l.length/\Hid (∀j,j<i->r_ (Ch.mk l) on j=true)/\Kp bA w2 wr) (λiv _=>l.length-(intOf iv).toNat)
 case atStart=>exact⟨0,rfl,aA _,ag (λj h=>absurd h oQ),Kp.refl _ _⟩
 case round=>
  obtain⟨i,rfl,hi,HB,X⟩:=hrel;have iq:=U.1.aw X;have zc:=iq.cell;have lO:lB wr w1.heap.size on:=X.at_ U.2.2.1 (λx=>x);by_cases ap:i<l.length
  ·have aS:(i:Int)<l.length:=oQ;have E:=ag (PU wr B cb l _ i _ on iq hl lO aI ap (λx hx=>aO i x hx));have Es:=ag (λ(h:r_ (Ch.mk l) on i=true)=>show∀j,j<i+1->r_ (Ch.mk l) on j=true from λj hj=>by
    rcases lX (lY hj)with h'|h'
    ·exact HB j h'
    subst h';exact h)
   have Er:=ag X;cases q:r_ (Ch.mk l) on i with
   |false=>
    rw[q]at E;have ad:=ag (D.trans (by rw[ZB oQ q,mF]));go_wp;refine b9 E ?_;intro F O;exact qR ad (U.2.2.2.trans (Er.trans O))
   |true=>?_
   rw[q]at E;go_wp;refine b9 E ?_;intro F O;go_wp2;exact⟨⟨i+1,eb,oQ,ag (Es q),Er.trans O⟩,ew⟩
  have a1:¬(i:Int)<l.length:=oQ;obtain rfl:i=l.length:=oQ;have aa:=D.out;rw[II,WW HB,fC]at aa;have Y:=X.at_ U.2.1 (λx=>x);have c1:wr.cell? ⟨Q,1,none⟩=some (string a.b_):=dG Y rfl;have E1:=ag (AP wr B cb l _ a.b_ iq hl sp);have HX:=c_ aa Y (U.2.2.2.trans X);go_wp;refine b9 E1 ?_;intro F O;have QQ:=O.at_ HX.2.1 (λx=>x);have c2:F.cell? ⟨Q,2,none⟩=some (string a.tm):=dG QQ rfl;have c3:F.cell? ⟨Q,3,none⟩=some (int i64 a.x):=dG QQ rfl;have c4:F.cell? ⟨Q,4,none⟩=some (int i64 a.y):=dG QQ rfl;have c5:F.cell? ⟨Q,5,none⟩=some (int i64 a.z):=dG QQ rfl;have E2:=ag (PS F a.tm st);have R:=ag (HX.2.2.trans O);have D:=ag HX.1;go_wp21;refine b9 E2 ?_;intro w4 G;rw[G];have E3:=ag (oC F a.x);have E4:=ag (oC F a.y);have E5:=ag (oC F a.z);generalize AN (Ch.mk l) a.b_=b1 at*;generalize tM a.tm=b2 at*;generalize mj a.x=b3 at*;generalize mj a.y=b4 at*;generalize mj a.z=b5 at*;cases b1
  ·exact qR D R
  cases b2
  ·exact qR D R
  go_wp21;refine b9 E3 ?_;intro w4 G;rw[G];cases b3
  ·go_wp2;go_ret;rw[D];exact⟨rfl,R⟩
  go_wp21;refine b9 E4 ?_;intro w4 G;rw[G];cases b4
  ·go_wp2;go_ret;rw[D];exact⟨rfl,R⟩
  go_wp21;refine b9 E5 ?_;intro w4 G;rw[G];cases b5<;>
  (go_wp2
   go_ret;rw[D];exact⟨rfl,R⟩)
theorem GJ{t L}(E:(Ch.read t).1=0)(D:NR L (chart t).2)a:oH t a=if rz L a.act a.b_ a.tm a.x a.y a.z then 0 else 7:=by
 have⟨hj,e⟩:=Ux E;have⟨hu,h16⟩:=Ce D hj;have hs:(Ch.read t).2.2.ah=L.map RN.st:=by rw[e];exact D.ah.symm
 unfold oH gP;rw[E,hs,Th D hu h16];rfl
theorem MN w t a(ha:a.Sm):
 Calls prog 97 #[string t,agg (cM a)] w λx w'=>x=returned (int i64 (oH t a))/\Kp bA w w':=by
 have⟨da,jx,dQ⟩:=kz;have J:=ak w (cells (cM a) 26);have Z:=kG w (cells (cM a) 26);have E0:=ag (oE (w.alloc (cells (cM a) 26)) t);have HE:=ag (λh0 L E=>GJ (t:=t) (L:=L) h0 E a);have F:=ag (show(Ch.read t).1≠0->oH t a=(Ch.read t).1 from λh=>by unfold oH;rw[aq (cX h)]);have aI:(prog.info? 26).map (·.size)=some (cM a).size:=bF;have HC:=ag (λ(Y:World) (B cb:Nat) (l:List NV) (v:Value) hF hl hpw=>vO Y B cb l v a hF hl ha hpw);generalize X:Ch.read t=rd at*;generalize aa:oH t a=la at*;generalize cM a=AA at*;go_in;go_upto_region 1 with fail;generalize w.alloc (cells AA 26)=w1 at*;generalize w.heap.size=ob at*;go_wp;refine hm E0 ?_;rintro x Y ⟨p,rfl,U,D,I⟩;have O:=I.at_ J (λx=>x);rw[X]at U D;cases q:rd.1 !=0 with
 |true=>
  have R:rd.1≠0:=cX q;have G:=ag (F R);exact qR G (Z.trans I)
 |false=>?_
 have he:rd.1=0:=cX q;obtain⟨cb,l,v,rfl,hF,E,Q,_⟩:=D he;have G:=ag (HE he _ E);have E2:=ag (HC Y w1.heap.size cb l v hF (by have:=Q.1;omega) (λi x hx=>by
  have:=E.wf i x.n (by unfold Ch.mk;rw[bD,hx];rfl);exact⟨this.1,this.2.1⟩))
 have HK:=ag (Z.trans I);go_wp2_with (refine gV O jx dQ aI ?_);refine b9 E2 ?_;intro w3 K3;generalize rz (Ch.mk l) a.act a.b_ a.tm a.x a.y a.z=lr at*;cases lr<;>
 (go_wp2
  go_ret;rw[G];exact⟨rfl,HK.trans K3⟩)
theorem MO w t:
 Calls prog 92 #[string t] w λx w'=>x=returned (tuple #[int i64 (Ch.read t).1,int i64 (Ch.read t).2.1])/\Kp bA w w':=by
 have E:=ag (oE w t);generalize F:Ch.read t=rd at*;go_in;go_wp;refine hm E ?_;rintro x G ⟨p,rfl,D⟩;have K:=ag D.2.2;go_wp2;go_ret2;exact⟨rfl,K⟩
theorem CL w wb o(hk:o.kind=1):
 Calls prog 64 #[pointer (some ⟨wb,0,none⟩),agg (mr o)] w λx w'=>x=returned (bool true)/\Kp bA w w':=by
 have D:=ak w (cells (mr o) 81);have R:=kG w (cells (mr o) 81);go_in;go_upto_region 1 with(fail);generalize w.alloc (cells (mr o) 81)=F at*;generalize w.heap.size=J at*;have c0:F.cell? ⟨J,0,none⟩=some (int i64 1):=by rw[World.cell?,D,<-hk];rfl
 have c1:F.cell? ⟨J,1,none⟩=some (string o.t):=dG D rfl;have O:=ag (Lc F o.t);go_wp21;refine b9 O ?_;intro X I;have c2:=I.bN c1;have Q:=ag (MO X o.t);go_wp2_with fail;refine b9 Q ?_;intro Y U;have G:=ag (oN Y (Ch.read o.t).1);go_wp2_with fail;refine b9 G ?_;intro Z E;rw[E];go_wp21;refine b9 G ?_;intro Z E;rw[E];exact iN ((R.trans I).trans U)
theorem xd.Sm.as{o:xd}(h:o.Sm):o.s.Sm:=⟨h.act,h.b_,h.tm⟩
theorem AT w o(hk:o.kind=3)(J:o.Sm):
 Calls prog 65 #[agg (mr o)] w λx w'=>x=returned (bool true)/\Kp bA w w':=by
 have⟨da,jx,dQ⟩:=kz;have D:=ak w (cells (mr o) 81);have K1:=kG w (cells (mr o) 81);have R:=J.as;go_in;go_upto_region 1 with fail;generalize w.alloc (cells (mr o) 81)=O at*;generalize w.heap.size=F at*;have c0:O.cell? ⟨F,0,none⟩=some (int i64 3):=by rw[World.cell?,D,<-hk];rfl
 have c1:O.cell? ⟨F,1,none⟩=some (string o.t):=dG D rfl;have iL:(prog.info? 26).map (·.size)=some (pD o.s).length:=bF;have cs:=qK D;have Y:=ag (ML O o.t o.s R);go_wp2_with (refine bS rfl 26 (tmp 32) rfl F 3 rfl (pD o.s) da cs jx dQ iL ?_);refine b9 Y ?_;intro X U;have E:=U.at_ D (λx=>x);have d1:X.cell? ⟨F,1,none⟩=some (string o.t):=dG E rfl;have ds:=qK E;have Z:=ag (MN X o.t o.s R);have HK:=ag (K1.trans U);go_wp2_with (refine bS rfl 26 (tmp 37) rfl F 3 rfl (pD o.s) da ds jx dQ iL ?_);refine b9 Z ?_;intro w3 K3;have Q:=ag (oN w3 (oH o.t o.s));have G:=ag (HK.trans K3);go_wp21;refine b9 Q ?_;intro w4 I;rw[I];go_wp21;refine b9 Q ?_;intro w4 I;rw[I];exact iN G
namespace Ch
theorem TL.mono{lo D}(h:D<=lo):∀ n {l},l.length<=n->TL lo l->TL D l:=by
 intro n;induction n with
 |zero=>intro l E _;cases l with|nil=>trivial|cons a l=>simp at E
 |succ n O=>?_
 intro l E J;match l,J with
 | [],_=>trivial
 |a::b::l,⟨⟨F,Q,G⟩,I⟩=>exact⟨⟨F,oQ,G⟩,O (by simp at E;omega) I⟩
theorem ZC{t}:∀ f k,Hs t f k=true->t.size<=k+f->(t.size-k) % 2=0->TL 49 ((gW t).drop k):=by
 intro f;induction f with
 |zero=>intro k _ D _;rw[dA (by rw[cL];omega)];trivial
 |succ f E=>?_
 intro k h D F;by_cases c:k+1<t.size
 ·rw[kr c];simp only[Hs,aq c]at h;split at h
  ·rename_i q;simp at q;refine⟨⟨q.1.1,oQ,oQ⟩,E (k+2) h oQ oQ⟩
  simp_all
 rw[dA (by rw[cL];omega)];trivial
theorem GK{t}(h:mJ t=true):TL 49 (gW t)/\t.size<=16:=by
 unfold mJ at h;split at h
 ·simp_all
 rename_i c;simp at c;have:=ZC t.size 0 h oQ oQ;simp_all
theorem Uy{ss t}:∀ f k n l r,wo ss t f k n l=some r->k+f<=l.length->n<=t.size->
 r.2<=t.size/\(gW t).drop n=((List.range' k f).filter (fZ ss)).map (λj=>r.1.getD j 0)++(gW t).drop r.2:=by
 intro f;induction f with
 |zero=>intro k n l r h _ F;simp[wo]at h;subst h;exact⟨F,dy⟩
 |succ f G=>?_
 intro k n l r h J F;have O:=Cv (f+1) k n l r h J;simp only[wo]at h;rw[nu];split at h
 ·rename_i q;split at h
  ·cases h
  rename_i c;have D:n<t.size:=by simp at c;omega
  have⟨h1,h2⟩:=G (k+1) (n+1) _ r h il oQ;have I:=(Cv f (k+1) (n+1) _ r h il).1 k oQ;refine⟨h1,?_⟩;rw[List.filter_cons_of_pos q,nY,List.cons_append,<-h2,I];have hk:k<l.length:=oQ;rw[eR (by rw[cL];exact D)];have E:=rX t n D;rw[au (by rw[cL];exact D)]at E;simp only[bE]at E;rw[E];simp[hk]
 rename_i q;have⟨h1,h2⟩:=G (k+1) n l r h oQ F;exact⟨h1,by rw[List.filter_cons_of_neg q];exact h2⟩
structure TkF L(ol:Ol)(a:As)(sd:Sd)on:Prop where
 spread:iY L a.act=some on
 same:iI L.length on sd.act
 b_:gW a.b_=lG ol.ah sd
 tm:sd.tm=a.tm
 x:sd.x=a.x
 y:sd.y=a.y
 z:sd.z=a.z
 tl:Gv 48 sd
theorem Fi{L ol}(G:L.map RN.st=ol.ah)(D:L.length<=16){a}(h:(gP ol.ah a).1=true):∃on,TkF L ol a (gP ol.ah a).2 on:=by
 have J:ol.ah.length<=16:=by rw[<-G];simpa using D
 unfold gP take at h⊢;split at h
 ·rename_i c1;rw[aq c1];split at h
  ·rename_i c2;rw[aq c2];split at h
   ·rename_i c3;rw[aq c3];simp only[fQ]at c3;have I:∃on,iY L a.act=some on/\iI L.length on (db ol.ah a.act).1:=by
     unfold db oJ at c1⊢;rw[<-G]at c1⊢;unfold iY;rcases xC (t:=a.act) D a.act.size 0 (-1) _ _ (N2 L.length) oQ with⟨_,e2⟩|⟨on,l,e1,e2,hs⟩
     ·rw[e2]at c1;simp at c1
     rw[e2]at c1⊢;refine⟨on,e1,?_⟩;cases F:allFit (L.map RN.st) l (L.map RN.st).length with
     |true=>simp only[F,aQ];exact hs
     |false=>simp only[F,bu,bf]at c1
    have⟨on,h1,h2⟩:=I;refine⟨on,h1,h2,?_,rfl,rfl,rfl,rfl,TL.mono oQ _ (aC _) (GK c3.1.1.1).1,(GK c3.1.1.1).2⟩;show gW a.b_=((List.range ol.ah.length).filter (fZ ol.ah)).map λj=>(cK ol.ah a.b_).1.getD j 0;unfold cK at c2⊢;cases q:wo ol.ah a.b_ (min ol.ah.length 16) 0 0 (eN ol.ah)with
    |none=>rw[q]at c2;simp at c2
    |some r=>?_
    rw[q]at c2;have⟨rl,rn⟩:=r;have E:=Uy _ _ _ _ _ q (by rw[gR];omega) oQ;simp only at c2 E⊢;split at c2
    ·simp at c2
    rename_i c;rw[ax c];have e:rn=a.b_.size:=by simp at c;omega
    have:=E.2;rw[dA (i:=rn) (by rw[cL];omega),show min ol.ah.length 16=ol.ah.length by omega,<-jm,List.drop_zero,iz]at this;exact this
   simp at h
  simp at h
 simp at h
def dx(ol:Ol)(sd:Sd)(ev:Int):Bool×As×ByteArray:=
 if(dz ol 29 (eh ol ⟨sd,[],[]⟩ (choose ol sd ev))).1 then(true,bX ol.ah (dz ol 29 (eh ol ⟨sd,[],[]⟩ (choose ol sd ev))).2.s,strOfNums (dz ol 29 (eh ol ⟨sd,[],[]⟩ (choose ol sd ev))).2.out)else(false,kJ,⟨#[]⟩)
theorem yL ol sd ev:bY ol sd ev=if(dx ol sd ev).1 then((dz ol 29 (eh ol ⟨sd,[],[]⟩ (choose ol sd ev))).2.s,(dx ol sd ev).2.2,0)else(l8,ByteArray.empty,9):=by
 unfold bY finish dx;grind[rE,busy,rounds,eh,choose]
end Ch
theorem CM w e s:Kp bA w (Lib.bytesWorld w e s):=⟨rfl,rfl,rfl,by rw[Lib.bytesWorld_size];omega,λk hk _=>Lib.bytesWorld_at_old w e s k hk⟩
theorem QR w s c:gr (Lib.bytesWorld w 5 s) w.heap.size (slice (some ⟨w.heap.size,0,none⟩) s.size c) s.size (aF (gW s)):=by
 refine⟨by simp[aF,gW],inr ⟨_,_,_,_,rfl,aC _,Lib.bytesWorld_at_new w 5 s,inr (aC _),?_,?_⟩⟩
 ·simp[Lib.bytesCells]
 simp[Lib.bytesCells,aF,gW]
theorem xI w B cb l v ol a ev sd on(hF:ku w B cb l v)(E:Rf l ol)(ha:a.Sm)(R:TkF (Ch.mk l) ol a sd on)(hI:Ch.Inv ol sd)(fW:sd.Ok):
 Calls prog 146 #[pointer (some ⟨cb,0,none⟩),agg (cM a),int .u8 ev] w λy w'=>y=returned (tuple #[agg (cM (dx ol sd ev).2.1),string (dx ol sd ev).2.2,bool (dx ol sd ev).1])/\Kp bA w w':=by
 have⟨da,jx,dQ⟩:=kz;have bk:=E.le;obtain⟨ao,ap,rfl⟩:=hF.2.1.len;have K0:Kp bA w ((w.alloc (cells (cM a) 26)).alloc (cells cG 26)):=((Kp.refl _ _).alloc _).alloc _;have a2:((w.alloc (cells (cM a) 26)).alloc (cells cG 26)).heap[w.heap.size]? =some (cells (cM a) 26):=by rw[cE _ _ _ dy];exact ak _ _
 have a1:((w.alloc (cells (cM a) 26)).alloc (cells cG 26)).heap[w.heap.size+1]? =some (cells cG 26):=by
  have:=ak (w.alloc (cells (cM a) 26)) (cells cG 26);simpa using this
 have a0:=hF.aw K0;have bc:=aR a1;go_in;go_upto_region 1 with fail;generalize (w.alloc (cells (cM a) 26)).alloc (cells cG 26)=J at*;have E1:=ag (Ai J B cb l _ a.act a0 oQ ha.act);have c0:J.cell? ⟨w.heap.size,0,none⟩=some (string a.act):=dG a2 rfl;have HF:=fM a0 a1 K0 a2;go_wp;refine hm E1 ?_;rintro y F ⟨u,rfl,K1,ba⟩;obtain⟨rfl,zJ,_⟩:=ba on R.spread;have a3:=K1.at_ HF.out.2.2.2 (λx=>x);have bg:=Lib.run_convert_string_bytes (P:=prog) F 9 47 5 a.b_ underlying9 underlying47 underlying5;have KB:=CM F 5 a.b_;have a8:=QR F a.b_ (grownCap F a.b_.size 0 5);have bb:=aR zJ;have U:=KB.at_ a3 (λx=>x);have d1:F.cell? ⟨w.heap.size,1,none⟩=some (string a.b_):=dG a3 rfl;have d2:(Lib.bytesWorld F 5 a.b_).cell? ⟨w.heap.size,2,none⟩=some (string a.tm):=dG U rfl;have d3:(Lib.bytesWorld F 5 a.b_).cell? ⟨w.heap.size,3,none⟩=some (int i64 a.x):=dG U rfl;have d4:(Lib.bytesWorld F 5 a.b_).cell? ⟨w.heap.size,4,none⟩=some (int i64 a.y):=dG U rfl;have d5:(Lib.bytesWorld F 5 a.b_).cell? ⟨w.heap.size,5,none⟩=some (int i64 a.z):=dG U rfl;have H1:=c_ (KB.at_ zJ (λx=>x):lB (Lib.bytesWorld F 5 a.b_) J.heap.size on) (K1.trans KB) a8;generalize grownCap F a.b_.size 0 5=pc at*;generalize bo:Lib.bytesWorld F 5 a.b_=O at*;generalize hg:J.heap.size=g at*;generalize F.heap.size=pb at*;generalize Zy:(#[pointer (some ⟨cb,0,none⟩),slice (some ⟨g,0,none⟩) l.length l.length,slice (some ⟨pb,0,none⟩) a.b_.size pc,string a.tm,int i64 a.x,int i64 a.y,int i64 a.z,string ⟨#[]⟩,string ⟨#[]⟩]:Array Value)=NW;go_upto_region 3 with fail;have hN:pj (O.alloc (cells NW 274)) B J.heap.size O.heap.size cb g (slice (some ⟨pb,0,none⟩) a.b_.size pc) (slice ao l.length ap) l ol ⟨sd,[],[]⟩:=by
  have KA:=(Kp.refl bA O).alloc (cells NW 274);refine⟨?_,⟨on,KA.at_ H1.out.1 (λx=>x),by have:=R.same;rw[eu]at this;exact this⟩,?_,(HF.out.1.aw H1.out.2.1).aw KA⟩
  ·unfold jD nwA;have e:(#[pointer (some ⟨cb,0,none⟩),slice (some ⟨g,0,none⟩) l.length l.length,slice (some ⟨pb,0,none⟩) a.b_.size pc,string sd.tm,int i64 sd.x,int i64 sd.y,int i64 sd.z,string ⟨#[]⟩,string ⟨#[]⟩]:Array Value)=NW:=by rw[R.tm,R.x,R.y,R.z];exact Zy
   rw[<-e];exact ak _ _
  unfold On;rw[<-R.b_];rw[cL];exact⟨H1.out.2.2.1,(gr.aB H1.out.2.2 KA (λ_ _ x=>x)).2.imp id (λ⟨g',c',cu,fr,e1,e2,r⟩=>⟨g',c',cu,fr,e1,oQ,r⟩)⟩
 have KW:Kp _ _ (O.alloc (cells NW 274)):=H1.out.2.1.alloc _;have bi:g<=O.heap.size:=by have:=H1.out.2.1.size;omega
 have HP:=ag KW;have HX:=ag hN;have a6:=tQ E.lD hI ev;have a7:=(mP ol sd ev).1;have Y:=mQ E.ok sd ev;have hM:sQ ⟨sd,[],[]⟩ 0:=⟨fW,R.tl,⟨aC _,aC _⟩⟩
 have hQ:QB ⟨sd,[],[]⟩:=λx hx=>by simp at hx
 have HM:=c_ (hM.eh E.ok E.Dl Y) (hQ.eh E.WR E.Dl (Ch.choose ol sd ev)) (lC E.lD (m:=⟨sd,[],[]⟩) hI ev);have HC:=c_ a6 a7 hM;have E2:=ag (sk (O.alloc (cells NW 274)) B O.heap.size cb g _ ⟨sd,[],[]⟩ l _ ol ev on hN.nb (((Kp.refl bA O).alloc (cells NW 274)).at_ H1.out.1 (λx=>x)) (by have:=R.same;rw[eu]at this;exact this) hI hN.ch E);have bm:J.heap.size<=pb:=oQ;generalize O.alloc (cells NW 274)=w3 at*;generalize O.heap.size=xb at*;have am:=ag (show dx ol sd ev=if(dz ol 29 (eh ol ⟨sd,[],[]⟩ (Ch.choose ol sd ev))).1 then(true,bX ol.ah (dz ol 29 (eh ol ⟨sd,[],[]⟩ (Ch.choose ol sd ev))).2.s,strOfNums (dz ol 29 (eh ol ⟨sd,[],[]⟩ (Ch.choose ol sd ev))).2.out)else(false,kJ,⟨#[]⟩)from rfl);replace E2:Hid (Calls prog 205 #[pointer (some ⟨xb,0,none⟩),int .u8 ev] w3 λy w'=>∃u,y=returned u/\w'.ownsRow w3.heap.size 301 2 u (Ch.choose ol sd ev).length (iJ ol (Ch.choose ol sd ev))/\Kp bA w3 w'):=E2;generalize be:Ch.choose ol sd ev=cs at*;go_wp;refine hm E2 ?_;rintro y w4 ⟨u,rfl,hu,K4⟩;have E3:=ag (xG w4 B J.heap.size xb cb g _ _ l ol ⟨sd,[],[]⟩ 0 _ cs _ (HX.out.aw K4) E hI HC.out.2.2 oQ Y HC.out.2.1 HC.out.1.2 HC.out.1.1 hu);have Zv:=ag (HP.out.trans K4);go_wp21;refine b9 E3 ?_;rintro w5 ⟨X5,K5⟩;generalize eh ol ⟨sd,[],[]⟩ cs=ms at*;have E4:=ag (CF B J.heap.size xb cb g _ _ l ol E 29 w5 ms _ X5 HM.out.2.2 HM.out.1 HM.out.2.1 oQ);replace E4:Hid (Calls prog 203 #[pointer (some ⟨xb,0,none⟩),int i64 29] w5 λy w'=>y=returned (bool (dz ol 29 ms).1)/\pj w' B J.heap.size xb cb g (slice (some ⟨pb,0,none⟩) a.b_.size pc) (slice ao l.length ap) l ol (dz ol 29 ms).2/\Kp (nS xb g (slice (some ⟨pb,0,none⟩) a.b_.size pc)) w5 w'):=E4;have a5:=ag (show Ch.Inv ol (dz ol 29 ms).2.s by rw[rE];exact rF E.lD 29 HM.out.2.2);have DL:=ag K5;go_wp21;refine b9 E4 ?_;rintro w8 ⟨X8,K8⟩;have Vu:∀i,i<J.heap.size->nS xb g (slice (some ⟨pb,0,none⟩) a.b_.size pc) i->False:=λi hi e=>by
  rcases e with e|e|e
  ·omega
  ·omega
  simp[Value.ownBlock]at e;omega
 have KA:=(Zv.out.trans' DL.out Vu).trans' K8 Vu;have aj:=KA.at_ HF.out.2.1 (λx=>x);have HA:=bw X8 (HF.out.2.2.1.trans KA);generalize dz ol 29 ms=rr at*;obtain⟨ok,I⟩:=rr;generalize VX:w.heap.size+1=X at*;cases ok with
 |false=>
  have ab:=ag (am.out.trans (ax dy));have KF:Kp _ _ (w8.setRow X cG):=HA.out.2.setRow (λx=>oQ) _;go_wp2_with (refine bJ cG aj bF rfl (fK kJ) ?_);refine aJ (az rfl _ _ X 26 cG (0,0) da rfl (an _ _ _ _ _ _ aj) jx dQ bF) rfl ?_;rw[ab.out];exact⟨rfl,KF⟩
 |true=>?_
 have ab:=ag (am.out.trans (aq rfl));have E4:=ag (CG w8 B J.heap.size xb cb g _ _ l ol I HA.out.1 E a5.out);go_wp21;refine b9 E4 ?_;intro Q K9;have MI:=K9.at_ aj (λx=>x);have X9:=HA.out.1.aw K9;have Z:=ak Q (cells cG 26);have aO:=fK (bX ol.ah I.s);have aI:_=some (cM (bX ol.ah I.s)).size:=bF;have aS:(cM (bX ol.ah I.s)).size=6:=rfl;generalize tR:cM (bX ol.ah I.s)=D at*;have Hd:=ag tR;have RM:=rQ Q (cells cG 26) D;have aa:=an (Q.alloc (cells cG 26)) Q.heap.size cG D 26 (0,0) Z;have Jt:=RM.at_ MI (λx=>x);have c8:((Q.alloc (cells cG 26)).setRow Q.heap.size D).cell? _=some (string (strOfNums I.out)):=(X9.aw RM).nb.cell 8;have a9:Q.heap.size≠X:=by have:=aR MI;omega
 have HK:=ag ((HA.out.2.trans K9).trans RM);have a4:xb≠X:=λe=>by
  have h1:=X9.nb;unfold jD at h1;rw[e,MI]at h1;simp only[bE,eH]at h1;exact absurd h1.2.1 aV
 go_upto_region 9 with(refine bJ D Z aI aS.symm aO ?_);generalize (Q.alloc (cells cG 26)).setRow Q.heap.size D=MJ at*;generalize Q.heap.size=sb at*;have G:MJ.drew.heap[sb]? =some (cells D 26 (0,0))/\MJ.drew.cell? ⟨xb,8,none⟩=some (string (strOfNums I.out)):=⟨aa,c8⟩
 have ad:(MJ.drew.setRow X D).heap[sb]? =some (cells D 26 (0,0))/\(MJ.drew.setRow X D).cell? ⟨xb,8,none⟩=some (string (strOfNums I.out)):=⟨by rw[cN _ _ _ _ a9];exact aa,by rw[kO (cN MJ.drew _ _ _ a4)];exact c8⟩
 have KF:Kp _ _ (MJ.drew.setRow X D):=HK.out.drew.setRow (λx=>oQ) _;refine aY (λw'=>w'.heap[sb]? =some (cells D 26 (0,0))/\w'.cell? ⟨xb,8,none⟩=some (string (strOfNums I.out))) bZ ?_;refine fh 0 51 (agg D) rfl (λw' hS=>dR 26 (tmp 14) rfl sb rM 26 D (0,0) da hS.1 jx dQ aI) G ?_;refine bR 1 52 (pointer (some ⟨xb,0,none⟩)) G ?_;refine bR 2 53 (pointer (some ⟨xb,0,none⟩)) G ?_;refine bR 3 54 (pointer (some ⟨xb,8,none⟩)) G ?_;refine fh 4 55 (string (strOfNums I.out)) rfl (λw' hS=>by have:=hS.2;simp[execOp,Act.eval,go_sem,this]) G ?_;refine cQ 5 bZ rfl rfl 26 (tmp 6) (tmp 51) rfl rfl X D nQ nQ 26 cG (by exact Jt) aI aS.symm aO ad ?_;refine bR 6 7 (string (strOfNums I.out)) ad ?_;refine fh 7 8 (bool true) rfl (λw' _=>by rfl) ad ?_;refine bG bZ (bH ?_) _;go_wp2;refine aJ (az rfl _ _ X 26 D (0,0) da rfl (an MJ.drew _ _ _ _ _ (by exact Jt)) jx dQ aI) rfl ?_;rw[ab];exact⟨by rw[<-Hd];rfl,KF⟩
namespace Ch
def tT(t:ByteArray)(a:As)(ev:ByteArray):As×ByteArray×Int:=
 if oH t a !=0 then(kJ,⟨#[]⟩,oH t a)else if decide (ev.size=1)&&ez (af ev 0)then
  (if(dx (read t).2.2 (qO t a) (af ev 0)).1 then((dx (read t).2.2 (qO t a) (af ev 0)).2.1,(dx (read t).2.2 (qO t a) (af ev 0)).2.2,0)else(kJ,⟨#[]⟩,9))else(kJ,⟨#[]⟩,8)
theorem Uz t a ev:Fh t a ev=tT t a ev:=by
 unfold Fh tT;rw[yL];split
 ·rfl
 split
 ·unfold dx;split<;>rfl
 rfl
theorem CN{t a}(h:oH t a=0):qO t a=(gP (read t).2.2.ah a).2/\(gP (read t).2.2.ah a).1=true:=by
 grind[oH,qO]
end Ch
theorem QS w t a ev(ha:a.Sm):
 Calls prog 100 #[string t,agg (cM a),string ev] w λx w'=>x=returned (tuple #[agg (cM (tT t a ev).1),string (tT t a ev).2.1,int i64 (tT t a ev).2.2])/\Kp bA w w':=by
 have⟨da,jx,dQ⟩:=kz;have K0:Kp bA w ((w.alloc (cells (cM a) 26)).alloc (cells cG 26)):=((Kp.refl _ _).alloc _).alloc _;have a2:((w.alloc (cells (cM a) 26)).alloc (cells cG 26)).heap[w.heap.size]? =some (cells (cM a) 26):=by rw[cE _ _ _ dy];exact ak _ _
 have aO:((w.alloc (cells (cM a) 26)).alloc (cells cG 26)).heap[w.heap.size+1]? =some (cells cG 26):=by
  have:=ak (w.alloc (cells (cM a) 26)) (cells cG 26);simpa using this
 have ao:=ag (show(Ch.read t).1≠0->oH t a=(Ch.read t).1 from λh=>by unfold oH;rw[aq (cX h)])
 have HU:=ag (show tT t a ev=if oH t a !=0 then(kJ,⟨#[]⟩,oH t a)else if decide (ev.size=1)&&ez (af ev 0)then
  (if(dx (Ch.read t).2.2 (qO t a) (af ev 0)).1 then((dx (Ch.read t).2.2 (qO t a) (af ev 0)).2.1,(dx (Ch.read t).2.2 (qO t a) (af ev 0)).2.2,0)else(kJ,⟨#[]⟩,9))else(kJ,⟨#[]⟩,8)from rfl)
 have aI:(prog.info? 26).map (·.size)=some (cM a).size:=bF;go_in;go_upto_region 1 with fail;generalize (w.alloc (cells (cM a) 26)).alloc (cells cG 26)=w0 at*;generalize VX:w.heap.size+1=I at*;generalize YD:w.heap.size=ob at*;have E0:=ag (oE w0 t);go_wp;refine hm E0 ?_;rintro x w2 ⟨p,rfl,a5,a0,K2⟩;have am:=K2.at_ a2 (λx=>x);have aa:=K2.at_ aO (λx=>x);have KW:=K0.trans K2;cases q1:(Ch.read t).1 !=0 with
 |true=>
  have O:=ag (HU.trans (show _=(kJ,(⟨#[]⟩:ByteArray),(Ch.read t).1)by rw[ao (cX q1),q1];rfl));generalize (Ch.read t).1=re at*;generalize (Ch.read t).2.1=rp at*;go_wp2_with (refine bJ cG aa bF rfl (fK kJ) ?_);refine aJ (az rfl _ _ I 26 cG (0,0) da rfl (an _ _ _ _ _ _ aa) jx dQ bF) rfl ?_;rw[O];exact⟨rfl,KW.setRow (λx=>oQ) _⟩
 |false=>?_
 have h0:(Ch.read t).1=0:=cX q1;obtain⟨cb,l,v,rfl,hF,hN,aS,hT⟩:=a0 h0;have ap:=(ag (λh0 L hN=>GJ (t:=t) (L:=L) h0 hN a)) h0 _ hN;have E2:=ag (vO w2 w0.heap.size cb l v a hF (by have:=aS.1;omega) ha (λi x hx=>by
  have:=hN.wf i x.n (by unfold Ch.mk;rw[bD,hx];rfl);exact⟨this.1,this.2.1⟩))
 have HX:=c_ hF (yK h0 hN hT) KW;generalize rz (Ch.mk l) a.act a.b_ a.tm a.x a.y a.z=lr at*;have Yb:=ag ap;generalize tR:cM a=AA at*;have Hd:=ag tR;generalize a6:(Ch.read t).1=re at*;generalize (Ch.read t).2.1=rp at*;go_wp2_with (refine gV am jx dQ aI ?_);refine b9 E2 ?_;intro E K3;have a3:=K3.at_ am (λx=>x);have U:=K3.at_ aa (λx=>x);have X:=c_ (HX.1.aw K3) HX.2.1 (HX.2.2.trans K3);cases lr with
 |false=>
  have KF:Kp bA w (E.setRow I cG):=X.2.2.setRow (λx=>oQ) _;go_wp2_with (refine bJ cG U bF rfl (fK kJ) ?_);refine aJ (az rfl _ _ I 26 cG (0,0) da rfl (an _ _ _ _ _ _ U) jx dQ bF) rfl ?_;rw[(ag (HU.trans (show _=(kJ,(⟨#[]⟩:ByteArray),(7:Int))by rw[Yb];rfl)))];exact⟨rfl,KF⟩
 |true=>?_
 have ad:oH t a=0:=Yb;have⟨hls,htk⟩:=CN ad;have hR:=X.2.1;have⟨on,ZD⟩:=Fi (L:=Ch.mk l) (ol:=(Ch.read t).2.2) (by have:=hR.ah;unfold Ch.ah at this;exact this) (by rw[eu];exact hR.le) htk;have Q:=I1 hR.lD htk;replace Q:Ch.Inv (Ch.read t).2.2 (gP (Ch.read t).2.2.ah a).2:=Q;have ab:(gP (Ch.read t).2.2.ah a).2.Ok:=yl;rw[<-hls]at ZD Q ab
 have HV:=ag (HU.trans (show _=if decide (ev.size=1)&&ez (af ev 0)then
  (if(dx (Ch.read t).2.2 (qO t a) (af ev 0)).1 then((dx (Ch.read t).2.2 (qO t a) (af ev 0)).2.1,(dx (Ch.read t).2.2 (qO t a) (af ev 0)).2.2,0)else(kJ,⟨#[]⟩,9))else(kJ,(⟨#[]⟩:ByteArray),8)by rw[ad];rfl))
 have HT:=c_ ZD Q ab;generalize qO t a=sd at*;generalize (Ch.read t).2.2=ol at*;by_cases hs:ev.size=1
 ·have a1:(ev.size:Int)=1:=oQ;have h0:0<ev.size:=oQ;have a4:0<=((ev[0]'h0).toNat:Int):=oQ;rw[(by simp[af,hs]:af ev 0=((ev[0]'h0).toNat:Int))]at HV;generalize hc:((ev[0]'h0).toNat:Int)=c at*;by_cases q2:97<=c
  ·by_cases q3:c<=122
   ·have q4:¬c<97:=oQ;have q5:¬ 122<c:=oQ;have HW:=ag (HV.trans (show _=if(dx ol sd c).1 then((dx ol sd c).2.1,(dx ol sd c).2.2,(0:Int))else(kJ,(⟨#[]⟩:ByteArray),9)by rw[(by unfold ez;simp[q2,q3]:ez c=true)];simp[hs]));have E3:∀W,Kp bA E W->Hid (Calls prog 146 #[pointer (some ⟨cb,0,none⟩),agg AA,int .u8 c] W λx w'=>x=returned (tuple #[agg (cM (dx ol sd c).2.1),string (dx ol sd c).2.2,bool (dx ol sd c).1])/\Kp bA W w'):=λW K=>ag (by rw[<-Hd];exact xI W w0.heap.size cb l v ol a c sd on (X.1.aw K) X.2.1 ha HT.1 HT.2.1 HT.2.2);generalize XW:dx ol sd c=fd at*;have⟨Y,fs,ft⟩:=fd;simp only at E3 HW;have fO:=fK fs;have fI:(prog.info? 26).map (·.size)=some (cM fs).size:=bF;have fS:(cM fs).size=6:=rfl;generalize Io:cM fs=J at*;have Ps:=ag Io;go_upto_region 9 with fail;go_cut [13,14,12]from 45 to 53 (λp e f wx=>∃fb,p= pointer (some ⟨fb,0,none⟩)/\e= string ft/\f= bool Y/\wx.heap[fb]? =some (cells J 26 (0,0))/\Kp bA E wx)
    case first=>
     have F:Kp bA E E.drew:=(Kp.refl _ _).drew;refine aY (λw'=>Kp bA E w') bZ ?_;refine bR 0 46 (pointer (some ⟨cb,0,none⟩)) F ?_;refine fh 1 47 (agg AA) rfl (λw' hS=>dR 26 (tmp 4) rfl ob nQ 26 AA (0,0) da (hS.at_ a3 (λx=>x)) jx dQ aI) F ?_;refine bR 2 48 (string ev) F ?_;refine fh 3 49 (int .u8 c) rfl (λw' _=>by simp[execOp,Act.eval,go_sem,hs,hc]) F ?_;refine qZ 4 9 bZ rfl rfl rfl rfl ?_ ?_
     ·refine er (some 50) rfl 146 #[pointer (some ⟨cb,0,none⟩),agg AA,int .u8 c] wX _ (λw'=>Kp bA E.drew w') (E3 E.drew F).out ?_;intro Z K5;have D:=F.trans K5;have CO:=D.alloc (cells cG 26);have G:=ak Z (cells cG 26);have R:=CO.setRow (g:=Z.heap.size) (λx=>by have:=D.size;omega) J;refine⟨D,?_⟩;simp only[Act.put,pA,pB,pC];refine bR 5 45 (tuple #[agg J,string ft,bool Y]) D ?_;refine bR 6 51 (agg J) D ?_;refine bR 7 52 (string ft) D ?_;refine bR 8 53 (bool Y) D ?_;refine pf 9 ?_;refine gA (some 13) rfl (pointer (some ⟨Z.heap.size,0,none⟩)) (Z.alloc (cells cG 26)) Fv ?_;simp only[Act.put,pA,pB,pC];refine⟨CO,?_⟩;refine cQ 10 bZ rfl rfl 26 (tmp 13) (tmp 51) rfl rfl Z.heap.size J nQ nQ 26 cG G fI fS.symm fO R ?_;refine bR 11 14 (string ft) R ?_;refine bR 12 12 (bool Y) R ?_;refine bG bZ (bH ?_) _;go_wp2;go_meet;exact⟨Z.heap.size,rfl,rfl,rfl,an _ _ _ _ _ _ G,R⟩
     refine gA (some 13) rfl (pointer (some ⟨E.heap.size,0,none⟩)) (E.drew.alloc (cells cG 26)) Fv ?_;simp only[Act.put,pA,pB,pC];have G:=ak E.drew (cells cG 26);have Dd:=F.alloc (cells cG 26);refine⟨Dd,?_⟩;refine pf 4 ?_;refine er (some 50) rfl 146 #[pointer (some ⟨cb,0,none⟩),agg AA,int .u8 c] wX _ (λw'=>Kp bA (E.drew.alloc (cells cG 26)) w') (E3 _ Dd).out ?_;intro Z K5;have D:=Dd.trans K5;have kE:Z.heap[E.heap.size]? =some (cells cG 26 (0,0)):=K5.at_ (k:=E.heap.size) (by exact G) (λx=>x);have R:=D.setRow (g:=E.heap.size) (λx=>oQ) J;refine⟨D,?_⟩;simp only[Act.put,pA,pB,pC];refine bR 5 45 (tuple #[agg J,string ft,bool Y]) D ?_;refine bR 6 51 (agg J) D ?_;refine bR 7 52 (string ft) D ?_;refine bR 8 53 (bool Y) D ?_;refine cQ 10 bZ rfl rfl 26 (tmp 13) (tmp 51) rfl rfl E.heap.size J nQ nQ 26 cG kE fI fS.symm fO R ?_;refine bR 11 14 (string ft) R ?_;refine bR 12 12 (bool Y) R ?_;refine bG bZ (bH ?_) _;go_wp2;go_meet;exact⟨E.heap.size,rfl,rfl,rfl,an _ _ _ _ _ _ kE,R⟩
    case rest=>
     obtain⟨fb,rfl,rfl,rfl,aj,K5⟩:=hcut;have MP:=K5.at_ U (λx=>x);have KD:=X.2.2.trans K5;cases Y with
     |false=>
      have O:=ag (HW.trans (ax dy));have KF:Kp bA w (wc.setRow I cG):=KD.setRow (λx=>oQ) _;go_wp2_with (refine bJ cG MP bF rfl (fK kJ) ?_);refine aJ (az rfl _ _ I 26 cG (0,0) da rfl (an _ _ _ _ _ _ MP) jx dQ bF) rfl ?_;rw[O];exact⟨rfl,KF⟩
     |true=>?_
     have O:=ag (HW.trans (aq rfl));have KF:Kp bA w (wc.setRow I J):=KD.setRow (λx=>oQ) _;go_wp2_with (first|refine gV aj jx dQ fI ?_|refine bJ J MP fI fS.symm fO ?_);refine aJ (az rfl _ _ I 26 J (0,0) da rfl (an _ _ _ _ _ _ MP) jx dQ fI) rfl ?_;rw[O];exact⟨by rw[<-Ps];rfl,KF⟩
   have q4:¬c<97:=oQ;have q5:122<c:=oQ;have O:=ag (HV.trans (show _=(kJ,(⟨#[]⟩:ByteArray),(8:Int))by rw[(by unfold ez;simp[q3]:ez c=false)];simp));go_wp2_with (refine bJ cG U bF rfl (fK kJ) ?_);refine aJ (az rfl _ _ I 26 cG (0,0) da rfl (an _ _ _ _ _ _ U) jx dQ bF) rfl ?_;rw[O];exact⟨rfl,(X.2.2.setRow (λx=>oQ) _:Kp bA w (E.setRow I cG))⟩
  have q4:c<97:=oQ;have O:=ag (HV.trans (show _=(kJ,(⟨#[]⟩:ByteArray),(8:Int))by rw[(by unfold ez;simp[q2]:ez c=false)];simp));go_wp2_with (refine bJ cG U bF rfl (fK kJ) ?_);refine aJ (az rfl _ _ I 26 cG (0,0) da rfl (an _ _ _ _ _ _ U) jx dQ bF) rfl ?_;rw[O];exact⟨rfl,(X.2.2.setRow (λx=>oQ) _:Kp bA w (E.setRow I cG))⟩
 have a1:((ev.size:Int)!=1)=true:=il;have O:=ag (HV.trans (show _=(kJ,(⟨#[]⟩:ByteArray),(8:Int))by simp[hs]));have KF:Kp bA w (E.setRow I cG):=X.2.2.setRow (λx=>oQ) _;go_wp2_with (refine bJ cG U bF rfl (fK kJ) ?_);refine aJ (az rfl _ _ I 26 cG (0,0) da rfl (an _ _ _ _ _ _ U) jx dQ bF) rfl ?_;rw[O];exact⟨rfl,KF⟩
